import unittest
from itertools import permutations

from ladderworth.books import in_order, players, points, read_book, show_book
from ladderworth.errors import NoBook, NoGame
from ladderworth.games import show_game, turned
from tests.reference import both_ways, four, names_of, three

EIGHT = ["ann", "bob", "cid", "dan", "eve", "fay", "gus", "hal"]
NO_TEXTS = [None, True, False, 0, 1, 40, [], [""], ["1 ann beat bob"], (), ("1 ann beat bob",), {}, {"": 1}, 1.0, b"",
            b"1 ann beat bob", [(1, "ann", "bob", 2, 0)], (1, "ann", "bob", 2, 0), object()]


def many(number, names=("ann", "bob")):
    return "; ".join(f"{day} {names[day % len(names)]} beat {names[(day + 1) % len(names)]}" for day in range(number))


class Read(unittest.TestCase):
    def test_without_games(self):
        self.assertEqual(read_book(""), [])
        self.assertIs(type(read_book("")), list)

    def test_some_by_hand(self):
        self.assertEqual(read_book("12 ann beat bob*"), [(12, "ann", "bob", 2, -1)])
        self.assertEqual(read_book("12 ann beat bob*; 3 cid* drew ann; 0 b lost a"),
                         [(12, "ann", "bob", 2, -1), (3, "cid", "ann", 1, 1), (0, "b", "a", 0, 0)])

    def test_games_stand_as_they_are_written(self):
        self.assertEqual([played[0] for played in read_book("5 ann beat bob; 3 ann beat bob; 4 ann beat bob")], [5, 3, 4])

    def test_a_game_more_than_once(self):
        text = "1 ann beat bob; 1 ann beat bob; 2 ann drew bob; 1 ann beat bob"
        self.assertEqual(read_book(text), [(1, "ann", "bob", 2, 0), (1, "ann", "bob", 2, 0), (2, "ann", "bob", 1, 0),
                                           (1, "ann", "bob", 2, 0)])
        self.assertEqual(len(read_book("; ".join(["7 ann beat bob"] * 40))), 40)

    def test_it_is_a_list_of_tuples(self):
        book = read_book("1 ann beat bob; 2 ann drew cid")
        self.assertIs(type(book), list)
        self.assertEqual([type(played) for played in book], [tuple, tuple])

    def test_what_is_shown_is_read_to_the_same(self):
        for games in three() + four()[::7] + [[]]:
            self.assertEqual(read_book(show_book(games)), games)

    def test_what_is_read_is_shown_as_it_was_written(self):
        for text in ["", "12 ann beat bob*", many(40), many(40, EIGHT), "9 a* drew b; 0 b lost a*; 9 a* drew b"]:
            self.assertEqual(show_book(read_book(text)), text)


class Shown(unittest.TestCase):
    def test_some_by_hand(self):
        self.assertEqual(show_book([]), "")
        self.assertEqual(show_book([(12, "ann", "bob", 2, -1)]), "12 ann beat bob*")
        self.assertEqual(show_book([(12, "ann", "bob", 2, -1), (3, "cid", "ann", 1, 1), (12, "ann", "bob", 2, -1)]),
                         "12 ann beat bob*; 3 cid* drew ann; 12 ann beat bob*")


class Bounds(unittest.TestCase):
    def test_forty_games_and_forty_one(self):
        self.assertEqual(len(read_book(many(39))), 39)
        self.assertEqual(len(read_book(many(40))), 40)
        for number in (41, 42, 100):
            with self.subTest(number), self.assertRaises(NoBook):
                read_book(many(number))

    def test_eight_players_and_nine(self):
        self.assertEqual(players(read_book(many(8, EIGHT))), EIGHT)
        self.assertEqual(players(read_book(many(40, EIGHT))), EIGHT)
        for names in (EIGHT + ["ida"], EIGHT + ["ida", "jon"]):
            with self.subTest(names), self.assertRaises(NoBook):
                read_book(many(len(names), names))

    def test_a_ninth_player_in_the_last_game_alone(self):
        eight = "1 ann beat bob; 2 cid beat dan; 3 eve beat fay; 4 gus beat hal"
        self.assertEqual(len(read_book(eight + "; 5 hal beat ann")), 5)
        for last in ("; 5 ida beat ann", "; 5 ann beat ida", "; 5 ida drew jon"):
            with self.subTest(last), self.assertRaises(NoBook):
                read_book(eight + last)

    def test_only_reading_refuses_what_is_beyond(self):
        names = EIGHT + ["ida"]
        games = [(99 - at, names[at % 9], names[(at + 1) % 9], 2, 0) for at in range(45)]
        self.assertEqual(players(games), names)
        self.assertEqual(points(games), [(name, 10, 10) for name in names])
        self.assertEqual(in_order(games), games[::-1])
        self.assertEqual(show_book(games).count("; "), 44)

    def test_too_many_of_both(self):
        with self.assertRaises(NoBook):
            read_book(many(41, EIGHT + ["ida"]))

    def test_behind_a_refusal_what_is_right_is_read(self):
        with self.assertRaises(NoBook):
            read_book(many(41))
        self.assertEqual(read_book("1 ann beat bob"), [(1, "ann", "bob", 2, 0)])


class NoGames(unittest.TestCase):
    def refused(self, texts):
        for text in texts:
            with self.subTest(text), self.assertRaises(NoGame):
                read_book(text)

    def test_no_text_at_all(self):
        self.refused(NO_TEXTS)

    def test_a_part_that_is_no_game(self):
        right = "1 ann beat bob"
        for wrong in ("x", "1 ann beat ann", "01 ann beat bob", "10000 ann beat bob", "1 ann* beat bob*", "1 ann won bob",
                      "1 ann beat", "none", "1 Ann beat bob"):
            self.refused([wrong, wrong + "; " + right, right + "; " + wrong, "; ".join([right, wrong, right])])

    def test_partings(self):
        one = "1 ann beat bob"
        other = "2 bob beat ann"
        self.refused([one + parting + other for parting in [
            ";", ";  ", " ; ", " ;", ", ", ",", ": ", ". ", " ", "", "\n", ";\n", ";\t", "; ; ", ";; ", "; ;", ";;", "|", "/"]])

    def test_empty_parts(self):
        one = "1 ann beat bob"
        self.refused([one + "; ", "; " + one, one + "; ; " + one, "; ", "; ; ", one + ";", ";" + one, ";", " ", "  ",
                      one + " ", " " + one, one + "\n", "\n"])

    def test_no_game_goes_ahead_of_no_book(self):
        for number in (40, 41, 60):
            self.refused([many(number) + "; x", "x; " + many(number), many(number) + "; ", "; " + many(number),
                          many(20) + "; 1 ann beat ann; " + many(number), many(number) + ";1 ann beat bob"])
        nine = EIGHT + ["ida"]
        self.refused([many(9, nine) + "; x", "x; " + many(9, nine), many(9, nine) + "; 1 jon beat jon",
                      many(41, nine) + "; 1 ann drew ann"])


class InOrder(unittest.TestCase):
    def test_by_days(self):
        self.assertEqual(show_book(in_order(read_book("9 ann beat bob; 10 ann beat bob; 0 ann beat bob"))),
                         "0 ann beat bob; 9 ann beat bob; 10 ann beat bob")
        self.assertEqual(in_order([]), [])

    def test_games_of_one_day_stay_as_they_stand(self):
        rows = ["5 cid beat ann", "5 ann beat bob", "5 bob drew cid*", "5 ann lost bob"]
        for order in permutations(rows):
            text = "; ".join(order)
            self.assertEqual(show_book(in_order(read_book(text))), text)
            between = "7 ann beat bob; " + "; ".join(order[:2]) + "; 2 zoe beat ann; " + "; ".join(order[2:])
            self.assertEqual(show_book(in_order(read_book(between))), "2 zoe beat ann; " + text + "; 7 ann beat bob")

    def test_a_game_more_than_once(self):
        self.assertEqual(show_book(in_order(read_book("2 ann beat bob; 1 ann beat bob; 2 ann beat bob; 1 ann beat bob"))),
                         "1 ann beat bob; 1 ann beat bob; 2 ann beat bob; 2 ann beat bob")

    def test_what_is_handed_in_stays(self):
        games = read_book("9 ann beat bob; 1 cid beat dan; 4 ann drew cid")
        kept = list(games)
        told = in_order(games)
        self.assertEqual(games, kept)
        told.clear()
        self.assertEqual(games, kept)
        self.assertEqual([played[0] for played in in_order(games)], [1, 4, 9])

    def test_a_book_that_is_in_order_is_told_anew(self):
        games = read_book("1 ann beat bob; 2 cid beat dan")
        self.assertIsNot(in_order(games), games)
        in_order(games).append(games[0])
        self.assertEqual(len(games), 2)


class Players(unittest.TestCase):
    def test_some_by_hand(self):
        self.assertEqual(players([]), [])
        self.assertEqual(players(read_book("1 bob beat ann")), ["ann", "bob"])
        self.assertEqual(players(read_book("1 zoe beat bob; 2 bob beat ann; 3 annie drew ann; 4 b drew zoe")),
                         ["ann", "annie", "b", "bob", "zoe"])

    def test_each_once_sorted(self):
        for games in three():
            self.assertEqual(players(games), names_of(games))

    def test_order_and_days_do_not_matter(self):
        for order in permutations(["9 eve beat bob", "1 dan lost ann", "5 bob drew dan"]):
            self.assertEqual(players(read_book("; ".join(order))), ["ann", "bob", "dan", "eve"])

    def test_a_told_list_is_the_askers_own(self):
        games = read_book("1 bob beat ann")
        players(games).append("cid")
        self.assertEqual(players(games), ["ann", "bob"])


class Points(unittest.TestCase):
    def test_some_by_hand(self):
        self.assertEqual(points([]), [])
        self.assertEqual(points(read_book("1 bob beat ann")), [("ann", 1, 0), ("bob", 1, 2)])
        self.assertEqual(points(read_book("1 bob* lost ann; 2 ann drew cid; 3 bob beat cid*; 3 bob beat cid*; 4 dan drew ann")),
                         [("ann", 3, 4), ("bob", 3, 4), ("cid", 3, 1), ("dan", 1, 1)])

    def test_they_are_tuples_in_a_list(self):
        told = points(read_book("1 bob beat ann"))
        self.assertIs(type(told), list)
        self.assertEqual([type(one) for one in told], [tuple, tuple])

    def test_counted_one_by_one(self):
        for games in three() + four()[::7]:
            ways = both_ways(games)
            self.assertEqual(points(games), [
                (name, sum(1 for one in ways if one[0] == name), sum(one[2] for one in ways if one[0] == name))
                for name in names_of(games)])

    def test_each_game_gives_two_half_points(self):
        for games in four():
            self.assertEqual(sum(one[2] for one in points(games)), 2 * len(games))
            self.assertEqual(sum(one[1] for one in points(games)), 2 * len(games))

    def test_games_turned_about_have_the_same_points(self):
        for games in three():
            self.assertEqual(points([turned(played) for played in games]), points(games))
            self.assertEqual(points([turned(played) for played in games[::2]] + games[1::2]), points(games))

    def test_a_told_list_is_the_askers_own(self):
        games = read_book("1 bob beat ann")
        points(games).clear()
        self.assertEqual(points(games), [("ann", 1, 0), ("bob", 1, 2)])
        self.assertEqual(show_game(games[0]), "1 bob beat ann")


if __name__ == "__main__":
    unittest.main()
