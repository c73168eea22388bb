import random
import unittest
from fractions import Fraction

from ladderworth.above import verdict, way
from ladderworth.books import in_order, players, read_book, show_book
from ladderworth.desk import Desk
from ladderworth.ends import ends
from ladderworth.errors import LadderError, NoBook, NoFit, NoGame, NoPlayer, NoRow, NoTree
from ladderworth.groups import group_shares
from ladderworth.ranks import ranking
from ladderworth.rules import Rule
from ladderworth.texts import show_fraction, show_tree
from ladderworth.trees import tree_shares
from ladderworth.walks import running
from tests.plain_desk import PlainDesk
from tests.reference import LONG, PLAIN, fitted, four, judged, shapes, three

NINE = ["ann", "bob", "cid", "dan", "eve", "fay", "gus", "hal", "ida"]
RING = "1 ann beat bob; 2 bob beat cid*; 3 cid beat ann"
LOOSE = "1 ann drew bob; 2 cid drew dan"
NONE = "1 ann beat bob; 2 bob beat cid"
TWO_TO_ONE = "1 ann beat bob; 2 ann beat bob; 3 bob beat ann; 4 bob drew cid"
WORTHS = {"ann": 5, "bob": 1, "cid": 999, "dan": 12, "eve": 5, "fay": 300, "gus": 2, "hal": 77}

# What isn't a number of six figures at most, without noughts ahead.
NO_NUMBERS = ["", "00", "01", "007", "+1", "-1", "-0", "1000000", "0000001", "9999999", "1.0", "1/1", "1e2", "0x1", "1_0",
              "one", "a", "*", "1;", "1,0"]
NO_ROWS = [
    "", " ", "  ", "x", "-", "none", "ok", "one", "ann", "help", "1 ann beat bob", "(ann bob)", "put; book", "book; book",
    "put", " put 1 ann beat bob", "puts 1 ann beat bob", "Put 1 ann beat bob", "put1 ann beat bob",
    "take", "take ", "take 1 2", "take  1", "take 1 ", " take 1", "take ann", "takes 1",
    "Book", "BOOK", "books", "boo", "book ", " book", "book book", "book  ",
    "verdict ", " verdict", "verdict one", "verdicts",
    "way", "way ann", "way ann bob cid", "way  ann bob", "way ann  bob", "way ann bob ", " way ann bob", "ways ann bob",
    "ends", "ends ann", "ends ann 7", "ends ann 7 1 1", "ends  ann 7 1", "ends ann  7 1", "ends ann 7  1", "ends ann 7 1 ",
    " ends ann 7 1", "ends 7 1", "ends 7 1 ann",
    "rank", "rank ann", "rank ann 7", "rank ann 7 1 1", "rank ann 7 1 ", "rank 7 1", "ranks ann 7 1", "ranking ann 7 1",
    "running ", " running", "running ann", "run",
    "worth", "worth ann", "worth 5", "worth ann 5 6", "worth ann  5", "worth  ann 5", "worth ann 5 ", " worth ann 5",
    "worth 5 ann", "worths ann 5",
    "tree", " tree ann", "trees ann", "tree(ann bob)", "group", " group ann", "groups ann",
]


def desk(text="", worths=None):
    made = Desk()
    for part in read_book(text):
        made.say("put " + show_book([part]))
    for name, worth in (worths or {}).items():
        made.say(f"worth {name} {worth}")
    return made


def told(one, row):
    """The answer, or the name of the refusal."""
    try:
        return one.say(row)
    except LadderError as e:
        return type(e).__name__


STATE = ["book", "verdict", "running"] + ["tree " + name for name in NINE]
STATE += [f"tree ({name} {other})" for name, other in zip(NINE, NINE[1:])]


def state(one):
    return [told(one, row) for row in STATE]


class Says(unittest.TestCase):
    """Each row of the interface, answered by hand."""

    def check(self, one, rows):
        for row, answer in rows:
            with self.subTest(row):
                self.assertEqual(told(one, row), answer)

    def test_without_games(self):
        self.check(Desk(), [
            ("book", "none"), ("verdict", "loose"), ("running", "none"), ("take 0", "NoGame"), ("take 1", "NoGame"),
            ("take 999999", "NoGame"), ("way ann bob", "NoPlayer"), ("way ann ann", "NoPlayer"),
            ("ends ann 7 12", "NoFit"),
            ("rank ann 7 12", "NoFit"), ("tree ann", "NoPlayer"), ("group ann", "NoPlayer"), ("worth ann 5", "ok"),
            ("tree ann", "ann 1"), ("group ann", "ann 1")])

    def test_a_ring(self):
        self.check(Desk(), [
            ("put 3 cid beat ann", "1"), ("put 1 ann beat bob", "2"), ("put 2 bob beat cid*", "3"),
            ("book", "1 ann beat bob; 2 bob beat cid*; 3 cid beat ann"), ("verdict", "one"), ("way ann ann", "ann"),
            ("way ann bob", "ann cid bob"), ("way bob ann", "bob ann"), ("way ann zoe", "NoPlayer"),
            ("way zoe ann", "NoPlayer"),
            ("ends ann 7 12", "ann 1 1; bob 1 1; cid 1 1"), ("rank ann 7 12", "ann 1 3; bob 1 3; cid 1 3"),
            ("running", "ann 1500; bob 1500; cid 1500"), ("take 3", "ok"), ("book", "1 ann beat bob; 3 cid beat ann"),
            ("verdict", "none ann cid"), ("way ann bob", "none"), ("ends ann 7 12", "NoFit"),
            ("running", "ann 1500; bob 1484; cid 1516"),
            ("take 3", "NoGame"), ("take 1", "ok"), ("take 2", "ok"), ("book", "none"), ("running", "none"),
            ("verdict", "loose")])

    def test_two_to_one(self):
        one = desk(TWO_TO_ONE)
        self.check(one, [
            ("book", TWO_TO_ONE), ("verdict", "one"), ("way ann cid", "ann bob cid"),
            ("running", "ann 7564/5; bob 7436/5; cid 1500"),
            ("ends ann 7 12", "ann 1 1; bob 3/7 4/7; cid 3/7 4/7"), ("rank ann 7 12", "ann 1 1; bob 2 3; cid 2 3"),
            ("ends cid 1 0", "ann 0 -; bob 0 -; cid 0 -"), ("rank cid 1 0", "ann 1 3; bob 1 3; cid 1 3"),
            ("ends bob 1 12", "ann 2 2; bob 1 1; cid 1 1"), ("rank bob 1000 12", "ann 1 1; bob 2 3; cid 2 3"),
            ("ends zoe 7 12", "NoPlayer"), ("rank zoe 7 12", "NoPlayer")])

    def test_one_row_settled_and_one_not(self):
        self.check(desk(RING), [
            ("ends ann 10 3", "ann 0 1; bob 0 1; cid 0 1"), ("rank ann 10 3", "ann 1 3; bob 1 3; cid 1 3")])
        text = "1 ann beat bob; 2 ann beat bob; 3 bob beat ann; 4 cid drew ann; 5 bob beat cid; 6 cid beat bob"
        self.check(desk(text), [
            ("ends ann 10 3", "ann 1 -; bob 1/2 -; cid 3/5 -"), ("rank ann 10 3", "ann 1 3; bob 1 3; cid 1 3")])

    def test_verdicts(self):
        for text, answer in [
                ("", "loose"), ("1 ann beat bob", "none ann"), ("1 bob lost ann", "none ann"),
                ("1 ann drew bob", "one"), (RING, "one"),
                (LOOSE, "loose ann bob / cid dan"),
                ("1 dan drew ann; 2 cid drew bob; 3 eve drew fay", "loose ann dan / bob cid / eve fay"),
                (NONE, "none ann"), ("1 zoe beat ann; 2 yan beat zoe", "none yan"),
                ("1 zoe drew ann; 2 zoe beat bob", "none ann zoe"),
                ("1 ann drew bob; 2 cid beat dan", "none cid"),
                ("1 b beat a; 2 a beat b; 3 a drew c; 4 d drew e", "loose a b c / d e")]:
            with self.subTest(text):
                self.assertEqual(desk(text).say("verdict"), answer)

    def test_running(self):
        for text, answer in [
                ("1 ann beat bob", "ann 1516; bob 1484"), ("1 bob lost ann*", "ann 1516; bob 1484"),
                ("1 ann drew bob", "ann 1500; bob 1500"),
                # The differences are 0, 32, 64: the third win is by 3/5.
                ("1 ann beat bob; 1 ann beat bob; 1 ann beat bob", "ann 7724/5; bob 7276/5"),
                ("2 bob beat ann; 1 ann beat bob; 1 ann beat bob", "ann 7564/5; bob 7436/5")]:
            with self.subTest(text):
                self.assertEqual(desk(text).say("running"), answer)

    def test_running_goes_by_each_row_of_the_table(self):
        # By this table worths move by steps of 16/5 alone; these are the differences next to each row's beginning.
        for wins, more, gap, share in [
                (0, [], "0", "1/2"), (2, ["ann drew bob"], "288/5", "1/2"),
                (2, ["ann beat cid", "ann lost cid"], "304/5", "3/5"), (4, ["ann beat cid", "ann beat bob"], "784/5", "3/5"),
                (8, ["ann lost bob"], "160", "7/10"), (12, ["ann drew cid"], "1392/5", "7/10"), (12, [], "1408/5", "4/5"),
                (25, ["ann beat cid"], "2288/5", "4/5"), (26, [], "2304/5", "9/10")]:
            one = desk("; ".join("1 " + row for row in ["ann beat bob"] * wins + more))
            before = running_of(one)
            self.assertEqual(before.get("ann", 1500) - before.get("bob", 1500), Fraction(gap))
            for word, halves in [("beat", 2), ("drew", 1), ("lost", 0)]:
                number = one.say(f"put 1 ann {word} bob")
                after = running_of(one)
                one.say("take " + number)
                bit = 32 * (Fraction(halves, 2) - Fraction(share))
                self.assertEqual(after["ann"] - before.get("ann", 1500), bit)
                self.assertEqual(after["bob"] - before.get("bob", 1500), -bit)

    def test_trees_and_groups(self):
        self.check(desk("", {"ann": 1, "bob": 2, "cid": 3}), [
            ("tree ann", "ann 1"), ("tree (ann bob)", "ann 1/3; bob 2/3"), ("tree (bob ann)", "ann 1/3; bob 2/3"),
            ("tree ((ann bob) cid)", "ann 1/12; bob 4/15; cid 13/20"),
            ("tree (ann (bob cid))", "ann 17/60; bob 4/15; cid 9/20"),
            ("group ann", "ann 1"), ("group bob ann", "ann 1/3; bob 2/3"),
            ("group cid ann bob", "ann 3/20; bob 1/3; cid 31/60"),
            ("tree dan", "NoPlayer"), ("tree (ann dan)", "NoPlayer"), ("group ann dan", "NoPlayer"),
            ("group dan", "NoPlayer"),
            ("group ann bob cid dan", "NoPlayer"), ("worth dan 1", "ok"), ("group ann dan", "ann 1/2; dan 1/2")])

    def test_a_worth_told_twice(self):
        self.check(desk("", {"ann": 1, "bob": 2}), [
            ("worth ann 6", "ok"), ("tree (ann bob)", "ann 3/4; bob 1/4"), ("group ann bob", "ann 3/4; bob 1/4"),
            ("worth ann 999", "ok"),
            ("worth bob 1", "ok"), ("tree (ann bob)", "ann 999/1000; bob 1/1000"), ("worth ann 1", "ok"),
            ("worth ann 1", "ok"),
            ("group ann bob", "ann 1/2; bob 1/2")])

    def test_told_worths_and_the_book_have_nothing_to_do_with_one_another(self):
        one = desk(RING)
        self.check(one,
                   [("tree ann", "NoPlayer"), ("worth ann 5", "ok"), ("tree ann", "ann 1"),
                    ("running", "ann 1500; bob 1500; cid 1500"),
                         ("worth zoe 5", "ok"), ("way ann zoe", "NoPlayer"), ("book", RING),
                         ("group ann bob", "NoPlayer")])

    def test_answers_are_texts(self):
        one = desk(RING, {"ann": 1})
        for row in ("put 1 ann beat bob", "take 1", "book", "verdict", "way ann bob", "ends ann 7 1", "rank ann 7 1",
                    "running",
                    "worth ann 5", "tree ann", "group ann"):
            with self.subTest(row):
                self.assertIs(type(one.say(row)), str)


def running_of(one):
    answer = one.say("running")
    return {} if answer == "none" else {row.split(" ")[0]: Fraction(row.split(" ")[1]) for row in answer.split("; ")}


def show(rows):
    return "; ".join(f"{name} {show_fraction(worth)}" for name, worth in rows)


class Numbers(unittest.TestCase):
    def test_they_go_on_behind_a_game_taken_back(self):
        one = Desk()
        self.assertEqual([one.say("put 1 ann beat bob") for turn in range(3)], ["1", "2", "3"])
        one.say("take 3")
        self.assertEqual(one.say("put 1 ann beat bob"), "4")
        for number in (1, 2, 4):
            one.say(f"take {number}")
        self.assertEqual(one.say("put 1 ann beat bob"), "5")
        self.assertEqual(told(one, "take 4"), "NoGame")
        self.assertEqual(told(one, "take 5"), "ok")

    def test_a_refused_game_gets_none(self):
        one = desk("1 ann beat bob; 2 cid beat dan; 3 eve beat fay; 4 gus beat hal")
        for row, name in [("put", "NoRow"), ("put ", "NoGame"), ("put x", "NoGame"), ("put 5 ann beat ann", "NoGame"),
                          ("put 5 ann beat ida", "NoBook"), ("put  5 ann beat bob", "NoGame"),
                          ("put 5 ann beat bob ", "NoGame")]:
            self.assertEqual(told(one, row), name)
        self.assertEqual(one.say("put 5 ann beat bob"), "5")

    def test_more_than_forty_one_after_the_other(self):
        one = Desk()
        for number in range(1, 101):
            self.assertEqual(one.say("put 1 ann beat bob"), str(number))
            self.assertEqual(one.say(f"take {number}"), "ok")
        self.assertEqual(one.say("book"), "none")

    def test_of_equal_games_the_numbered_one_goes(self):
        one = desk("5 ann beat bob; 5 bob beat ann; 5 ann beat bob")
        one.say("take 1")
        self.assertEqual(one.say("book"), "5 bob beat ann; 5 ann beat bob")

    def test_the_book_in_order(self):
        one = Desk()
        for played in LONG:
            one.say("put " + show_book([played]))
        self.assertEqual(one.say("book"), show_book(in_order(LONG)))
        self.assertNotEqual(one.say("book"), show_book(LONG))
        one.say("put 9 bob* drew ann")
        self.assertEqual(one.say("book"), show_book(in_order(LONG + read_book("9 bob* drew ann"))))


class ByTheStages(unittest.TestCase):
    def test_books(self):
        for games in three()[::5] + four()[::41] + [games for games, worths, edge in fitted()]:
            one = desk(show_book(games))
            with self.subTest(games):
                self.assertEqual(one.say("book"), show_book(in_order(games)) or "none")
                self.assertEqual(one.say("running"), show(running(Rule(32, 1500, PLAIN), games)) or "none")
                self.assertEqual(one.say("verdict").split(" ")[0], verdict(games)[0])
                for name in players(games):
                    for other in players(games):
                        self.assertEqual(one.say(f"way {name} {other}"), " ".join(way(games, name, other) or ["none"]))

    def test_ends_and_ranks(self):
        books = [games for games in three() if judged(games)[0] == "one"][::7] + [games for games, worths,
                                                                                  edge in fitted()]
        highs = 0
        for games in books:
            one = desk(show_book(games))
            for name, scale, rounds in [(players(games)[0], 1, 0), (players(games)[-1], 1000, 12),
                                        (players(games)[1], 20, 3)]:
                parts = ends(games, name, scale, rounds)
                rows = [(name, show_fraction(low), "-" if high is None else show_fraction(high))
                        for name, (low, high) in zip(players(games), parts)]
                highs += len([row for row in rows if row[2] != "-"])
                self.assertEqual(one.say(f"ends {name} {scale} {rounds}"), "; ".join(" ".join(row) for row in rows))
                self.assertEqual(one.say(f"rank {name} {scale} {rounds}"), "; ".join(
                    f"{name} {best} {worst}" for name, (best, worst, apart) in zip(players(games), ranking(parts))))
        self.assertGreater(highs, 30)

    def test_the_side_does_not_move_the_ends(self):
        # No edge is told at the desk.
        one = desk("1 ann* drew bob; 2 ann* beat bob; 3 bob beat ann")
        two = desk("1 ann drew bob*; 2 ann beat bob; 3 bob* beat ann")
        for row in ("ends ann 100 12", "ends bob 100 12", "rank ann 100 12"):
            self.assertEqual(one.say(row), two.say(row))

    def test_trees_and_groups(self):
        one = desk("", WORTHS)
        for many in range(1, 9):
            for tree in shapes(list(WORTHS)[:many])[::23]:
                self.assertEqual(one.say("tree " + show_tree(tree)), show(tree_shares(tree, WORTHS)))
        for at in range(8):
            for many in range(1, 5):
                names = (list(WORTHS) * 2)[at:at + many]
                self.assertEqual(one.say("group " + " ".join(names)), show(group_shares(names, WORTHS)))


class Refused(unittest.TestCase):
    def desks(self):
        return [Desk(), desk(RING, {"ann": 1, "bob": 2}), desk(LOOSE, {"cid": 7}), desk(NONE), desk(TWO_TO_ONE, WORTHS)]

    def refused(self, one, row, error):
        before = state(one)
        with self.subTest(row), self.assertRaises(LadderError) as caught:
            one.say(row)
        self.assertIs(type(caught.exception), error, row)
        self.assertEqual(state(one), before)

    def test_what_is_no_row(self):
        for one in self.desks():
            for row in NO_ROWS:
                self.refused(one, row, NoRow)

    def test_what_is_no_text(self):
        for one in self.desks():
            for thing in (None, True, False, 0, 1, 0.5, b"book", [], ["book"], ("book",), ("put", "1 ann beat bob"), {},
                          {"book": 1}, object()):
                self.refused(one, thing, NoRow)

    def test_numbers_that_are_none(self):
        for one in self.desks():
            for word in NO_NUMBERS:
                for row in ("take " + word, f"ends ann {word} 1", f"ends ann 7 {word}", f"rank ann {word} 1",
                            f"rank ann 7 {word}",
                            f"worth ann {word}", f"ends zoe {word} 1", f"rank zoe 7 {word}"):
                    self.refused(one, row, NoRow)

    def test_numbers_outside_of_what_is_told(self):
        for one in self.desks():
            for row in ("ends ann 0 1", "ends ann 1001 1", "ends ann 999999 1", "ends ann 7 13", "ends ann 7 999999",
                        "rank ann 0 1",
                        "rank ann 1001 1", "rank ann 7 13", "worth ann 0", "worth ann 1000", "worth ann 999999",
                        "ends zoe 0 1",
                        "rank zoe 7 13", "worth zoe 0"):
                self.refused(one, row, NoRow)

    def test_numbers_at_the_ends_of_what_is_told(self):
        one = desk(RING)
        for row in ("ends ann 1 0", "ends ann 1000 12", "rank ann 1 0", "rank ann 1000 12", "worth ann 1",
                    "worth ann 999", "take 1"):
            with self.subTest(row):
                self.assertNotIn(told(one, row), ("NoRow", "NoFit", "NoGame"))
        for number in (0, 4, 9, 10, 100, 99999, 999999):
            self.refused(one, f"take {number}", NoGame)

    def test_no_name_behind_worth(self):
        for one in self.desks():
            for word in ("", "Ann", "ann1", "abcdefghi", "5", "ann*", "(ann", "a_b", "-", "ann;"):
                self.refused(one, f"worth {word} 5", NoRow)

    def test_longest_and_shortest_names(self):
        one = Desk()
        self.assertEqual([one.say("worth a 5"), one.say("worth abcdefgh 5")], ["ok", "ok"])
        self.assertEqual(one.say("tree (a abcdefgh)"), "a 1/2; abcdefgh 1/2")

    def test_what_is_no_game(self):
        for one in self.desks():
            for text in ("", " ", "x", "1 ann beat", "1 ann beat bob cid", "1  ann beat bob", " 1 ann beat bob",
                         "1 ann beat bob ",
                         "01 ann beat bob", "10000 ann beat bob", "-1 ann beat bob", "1 ann beat ann",
                         "1 ann* beat bob*", "1 ann won bob",
                         "1 Ann beat bob", "1 abcdefghi beat bob", "1 ann beat bob;", "1 ann beat bob; 2 ann beat bob",
                         "put 1 ann beat bob"):
                self.refused(one, "put " + text, NoGame)

    def test_what_is_no_tree(self):
        for one in self.desks():
            for text in ("", " ", "(", "()", "(ann)", "ann bob", " ann", "ann ", "(ann  bob)", "(ann bob", "(ann bob))",
                         "(ann ann)", "Ann",
                         "abcdefghi", "(ann bob cid)", "(zoe zoe)", "tree ann", "((((((((a b) c) d) e) f) g) h) i)"):
                self.refused(one, "tree " + text, NoTree)

    def test_what_is_no_group(self):
        for one in self.desks():
            for text in ("", " ", "ann ", " ann", "ann  bob", "ann ann", "ann Bob", "ann 5", "abcdefghi", "(ann bob)",
                         "ann bob cid dan eve",
                         "zoe zoe", "ann bob ann", "v w x y z", "zoe *", "ann,bob"):
                self.refused(one, "group " + text, NoTree)

    def test_a_name_without_a_worth(self):
        for one in self.desks():
            for row in ("tree zoe", "tree (ann zoe)", "tree (zoe ann)", "group zoe", "group ann zoe",
                        "group zoe ann bob cid",
                        "tree ((ann bob) (cid zoe))", "tree none", "group none"):
                self.refused(one, row, NoPlayer)

    def test_a_player_that_is_not_there(self):
        for text in ("", RING, LOOSE, NONE):
            for row in ("way ann zoe", "way zoe ann", "way zoe zoe", "way ann ", "way  ann", "way  ", "way ann Bob",
                        "way ann 5",
                        "way ann abcdefghi", "way * ann", "way ann bob*"):
                self.refused(desk(text), row, NoPlayer)

    def test_an_anchor_that_is_not_there(self):
        for text, error in [("", NoFit), (LOOSE, NoFit), (NONE, NoFit), (RING, NoPlayer), (TWO_TO_ONE, NoPlayer)]:
            for word in ("zoe", "", "Ann", "ann*", "5", "abcdefghi", "-"):
                self.refused(desk(text), f"ends {word} 7 3", error)
                self.refused(desk(text), f"rank {word} 7 3", error)

    def test_no_fit_with_its_verdict(self):
        for text in ("", LOOSE, NONE):
            for row in ("ends ann 7 3", "rank ann 7 3", "ends zoe 7 3"):
                self.refused(desk(text), row, NoFit)
                with self.assertRaises(NoFit) as caught:
                    desk(text).say(row)
                self.assertEqual(caught.exception.verdict, verdict(read_book(text)))

    def test_what_is_done_to_the_verdict_of_a_refusal_changes_nothing(self):
        one = desk(LOOSE)
        for turn in range(2):
            with self.assertRaises(NoFit) as caught:
                one.say("ends ann 7 3")
            self.assertEqual(caught.exception.verdict, ("loose", [["ann", "bob"], ["cid", "dan"]]))
            caught.exception.verdict[1][0].clear()
        self.assertEqual(one.say("verdict"), "loose ann bob / cid dan")

    def test_the_forty_first_game(self):
        one = desk("; ".join(f"{day} ann beat {NINE[1 + day % 5]}" for day in range(40)))
        for row in ("put 0 ann beat bob", "put 9999 bob beat ann", "put 50 zoe beat ann"):
            self.refused(one, row, NoBook)
        self.refused(one, "put 0 ann beat ann", NoGame)
        one.say("take 40")
        self.assertEqual(one.say("put 0 ann beat bob"), "41")
        self.refused(one, "put 0 ann beat bob", NoBook)

    def test_the_ninth_player(self):
        one = desk("1 ann beat bob; 2 cid beat dan; 3 eve beat fay; 4 gus beat hal")
        for row in ("put 5 ann beat ida", "put 5 ida beat ann", "put 0 ida beat jon"):
            self.refused(one, row, NoBook)
        self.assertEqual(one.say("put 5 ann beat hal"), "5")
        one.say("take 4")
        self.assertEqual(one.say("put 5 ann beat ida"), "6")
        self.refused(one, "put 5 gus beat ann", NoBook)


class Dialogues(unittest.TestCase):
    """Long rows of rows, right and wrong, answered as by the words."""

    def some_row(self, rng):
        name, other = rng.sample(NINE[:rng.choice((3, 3, 4, 9))], 2)
        word = rng.choice(("beat", "drew", "drew", "lost"))
        star = rng.choice(("", "", "*"))
        day = rng.choice((0, 3, 3, 7, 9999, 10000))
        number = rng.choice(("1", "2", "3", "7", "20", "0", "08", "999", "1000", "1001", "12345678"))
        rounds = rng.choice(("0", "1", "2", "4", "13"))
        names = rng.sample(NINE[:6], rng.choice((1, 2, 3, 4, 5)))
        tree = show_tree(rng.choice(shapes(names)))
        return rng.choice([f"put {day} {name}{star} {word} {other}"] * 6 + [
            f"take {rng.randrange(12)}", f"take {number}", "book", "verdict", "running", f"way {name} {other}",
            f"way {name} {name}",
            f"ends {name} {number} {rounds}", f"rank {name} {number} {rounds}", f"worth {name} {number}",
            f"worth {name} {rng.randrange(1, 9)}",
            "tree " + tree, "group " + " ".join(names), f"tree ({tree} {name})", rng.choice(NO_ROWS),
            self.spoiled(rng, f"way {name} {other}"),
            self.spoiled(rng, f"put {day} {name} {word} {other}"), self.spoiled(rng, "tree " + tree),
            self.spoiled(rng, f"worth {name} {number}"), self.spoiled(rng, "group " + " ".join(names))])

    def spoiled(self, rng, row):
        at = rng.randrange(len(row))
        return row[:at] + rng.choice(("", " ", "a", "0", "*", "(")) + row[at + rng.randrange(2):]

    def test_as_by_the_words(self):
        seen = {}
        for seed in range(60):
            rng = random.Random(seed)
            one = Desk()
            plain = PlainDesk()
            for turn in range(60):
                row = self.some_row(rng)
                before = state(one)
                answer = told(one, row)
                self.assertEqual(answer, plain.say(row), (seed, turn, row))
                if answer.startswith("No"):
                    self.assertEqual(state(one), before)
                kind = (row.split(" ")[0], answer if answer.startswith("No") else "")
                seen[kind] = seen.get(kind, 0) + 1
            self.assertEqual(state(one), [plain.say(row) for row in STATE])
        for kind in [("put", ""), ("put", "NoGame"), ("take", ""), ("take", "NoGame"), ("take", "NoRow"), ("way", ""),
                     ("way", "NoPlayer"),
                     ("ends", ""), ("ends", "NoFit"), ("ends", "NoRow"), ("rank", ""), ("rank", "NoFit"), ("worth", ""),
                     ("worth", "NoRow"),
                     ("tree", ""), ("tree", "NoTree"), ("tree", "NoPlayer"), ("group", ""), ("group", "NoTree"),
                     ("group", "NoPlayer")]:
            self.assertGreater(seen.get(kind, 0), 5, kind)


class Own(unittest.TestCase):
    def test_two_desks_beside_one_another(self):
        one = Desk()
        two = Desk()
        self.assertEqual(one.say("put 1 ann beat bob"), "1")
        self.assertEqual(two.say("book"), "none")
        self.assertEqual(two.say("put 7 cid drew dan"), "1")
        self.assertEqual(two.say("put 8 cid drew dan"), "2")
        one.say("worth ann 5")
        self.assertEqual(told(two, "tree ann"), "NoPlayer")
        two.say("worth ann 7")
        two.say("worth bob 7")
        self.assertEqual(told(one, "tree (ann bob)"), "NoPlayer")
        self.assertEqual(two.say("tree (ann bob)"), "ann 1/2; bob 1/2")
        self.assertEqual(one.say("take 1"), "ok")
        self.assertEqual(two.say("book"), "7 cid drew dan; 8 cid drew dan")
        self.assertEqual((one.say("verdict"), two.say("verdict")), ("loose", "one"))
        self.assertEqual((one.say("running"), two.say("running")), ("none", "cid 1500; dan 1500"))
        self.assertEqual(Desk().say("book"), "none")
        self.assertEqual(told(Desk(), "tree ann"), "NoPlayer")

    def test_asking_changes_nothing(self):
        one = desk(TWO_TO_ONE, WORTHS)
        kept = state(one)
        for row in ("book", "verdict", "running", "way ann bob", "ends ann 7 3", "rank ann 7 3", "tree (ann bob)",
                    "group ann bob"):
            answer = one.say(row)
            self.assertEqual(one.say(row), answer)
            self.assertEqual(state(one), kept)


if __name__ == "__main__":
    unittest.main()
