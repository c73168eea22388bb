import unittest
from copy import deepcopy

from ladderworth import rules
from ladderworth.books import read_book
from ladderworth.errors import NoBook, NoGame, NoPlayer
from ladderworth.games import read_game, turned
from ladderworth.ledger import Ledger
from ladderworth.ratios import plus
from ladderworth.rules import Capped, Early, Rested, Rule
from ladderworth.walks import running
from tests.reference import KINDS, LONG, PLAIN, STEEP, four, names_of, ordered, reached_from, three

EIGHT = ["ann", "bob", "cid", "dan", "eve", "fay", "gus", "hal"]


def ledger(text="", rule=None):
    made = Ledger(rule or Rule(32, 1500, PLAIN))
    for played in read_book(text):
        made.put(played)
    return made


def many(number):
    return "; ".join(f"{day} {EIGHT[day % 2]} beat {EIGHT[2 + day % 3]}" for day in range(number))


def state(one):
    worths = one.worths()
    return (one.games(), worths, [one.worth(name) for name, worth in worths])


class Numbers(unittest.TestCase):
    def test_at_first_there_is_nothing(self):
        one = ledger()
        self.assertEqual(one.games(), [])
        self.assertEqual(one.worths(), [])

    def test_one_two_three(self):
        one = ledger()
        self.assertEqual([one.put(played)[0] for played in LONG], list(range(1, 21)))

    def test_the_same_game_twice_has_two_numbers(self):
        one = ledger()
        played = read_game("1 ann beat bob")
        self.assertEqual([one.put(played)[0] for turn in range(3)], [1, 2, 3])
        one.take(2)
        self.assertEqual(one.games(), [played, played])
        one.take(1)
        one.take(3)
        self.assertEqual(one.games(), [])

    def test_none_twice_behind_a_game_taken_back(self):
        one = ledger("1 ann beat bob; 2 ann beat bob")
        one.take(2)
        self.assertEqual(one.put(read_game("3 ann beat bob"))[0], 3)
        one.take(1)
        one.take(3)
        self.assertEqual(one.games(), [])
        self.assertEqual(one.put(read_game("3 ann beat bob"))[0], 4)
        self.assertEqual(one.put(read_game("1 ann beat bob"))[0], 5)

    def test_a_refused_game_gets_none(self):
        one = ledger(many(40))
        for turn in range(3):
            with self.assertRaises(NoBook):
                one.put(read_game("1 ann beat bob"))
        one.take(17)
        self.assertEqual(one.put(read_game("1 ann beat bob"))[0], 41)
        two = ledger("1 ann beat bob; 2 cid beat dan; 3 eve beat fay; 4 gus beat hal")
        with self.assertRaises(NoBook):
            two.put(read_game("5 ann beat ida"))
        self.assertEqual(two.put(read_game("5 ann beat hal"))[0], 5)

    def test_a_refused_number_gets_none(self):
        one = ledger("1 ann beat bob")
        for number in (2, 0, -1):
            with self.assertRaises(NoGame):
                one.take(number)
        self.assertEqual(one.put(read_game("1 ann beat bob"))[0], 2)

    def test_many_more_than_forty_where_each_is_taken_back(self):
        one = ledger()
        for number in range(1, 121):
            self.assertEqual(one.put(read_game("1 ann beat bob")), (number, ["ann", "bob"]))
            self.assertEqual(one.take(number), ["ann", "bob"])
        self.assertEqual(one.games(), [])

    def test_kinds(self):
        one = ledger("1 ann beat bob")
        told = one.put(read_game("2 ann beat bob"))
        self.assertIs(type(told), tuple)
        self.assertIs(type(told[0]), int)
        for thing in (told[1], one.games(), one.worths(), one.take(1)):
            self.assertIs(type(thing), list)
        self.assertEqual(one.worth("ann"), (1516, 1))
        self.assertIs(type(one.worth("ann")), tuple)


class Books(unittest.TestCase):
    def test_the_book_is_in_order(self):
        one = ledger()
        for at, played in enumerate(LONG):
            one.put(played)
            self.assertEqual(one.games(), ordered(LONG[:at + 1]))

    def test_a_late_game_stands_by_its_day(self):
        one = ledger("5 ann beat bob; 9 ann beat cid")
        one.put(read_game("7 bob beat cid"))
        one.put(read_game("0 dan beat cid"))
        self.assertEqual([played[0] for played in one.games()], [0, 5, 7, 9])

    def test_of_one_day_it_stands_behind_those_put_in_before(self):
        one = ledger("5 ann beat bob; 9 ann beat cid; 5 cid beat bob")
        one.put(read_game("5 bob beat ann"))
        self.assertEqual(one.games(), read_book("5 ann beat bob; 5 cid beat bob; 5 bob beat ann; 9 ann beat cid"))

    def test_put_in_again_it_stands_behind(self):
        one = ledger("5 ann beat bob; 5 bob beat ann")
        one.take(1)
        one.put(read_game("5 ann beat bob"))
        self.assertEqual(one.games(), read_book("5 bob beat ann; 5 ann beat bob"))

    def test_taken_back_the_others_stay_as_they_stood(self):
        for at in range(len(LONG)):
            one = Ledger(Rule(32, 1500, PLAIN))
            for played in LONG:
                one.put(played)
            one.take(at + 1)
            left = LONG[:at] + LONG[at + 1:]
            self.assertEqual(one.games(), ordered(left))
            self.assertEqual(one.worths(), running(Rule(32, 1500, PLAIN), left))

    def test_of_equal_games_just_the_numbered_one_goes(self):
        text = "5 ann beat bob; 5 bob beat ann; 5 ann beat bob"
        for number, left in [(1, "5 bob beat ann; 5 ann beat bob"), (3, "5 ann beat bob; 5 bob beat ann"),
                             (2, "5 ann beat bob; 5 ann beat bob")]:
            one = ledger(text)
            one.take(number)
            self.assertEqual(one.games(), read_book(left))

    def test_games_stay_as_they_were_told(self):
        played = read_game("5 bob* lost ann")
        one = ledger()
        one.put(played)
        self.assertEqual(one.games(), [played])
        self.assertNotEqual(one.games(), [turned(played)])


class Worths(unittest.TestCase):
    def test_by_hand(self):
        one = ledger("1 ann beat bob; 2 ann beat bob; 3 bob beat ann; 4 bob drew cid")
        self.assertEqual(one.worths(), [("ann", (7564, 5)), ("bob", (7436, 5)), ("cid", (1500, 1))])
        self.assertEqual(one.worth("bob"), (7436, 5))
        one.take(2)
        self.assertEqual(one.worths(), [("ann", (1500, 1)), ("bob", (1500, 1)), ("cid", (1500, 1))])
        one.take(4)
        self.assertEqual(one.worths(), [("ann", (1500, 1)), ("bob", (1500, 1))])

    def test_they_are_those_of_a_walk(self):
        for kind, more in KINDS:
            rule = getattr(rules, kind)(32, 1500, STEEP, *more)
            one = Ledger(rule)
            for at, played in enumerate(LONG):
                one.put(played)
                worths = running(rule, LONG[:at + 1])
                self.assertEqual(one.worths(), worths)
                for name, worth in worths:
                    self.assertEqual(one.worth(name), worth)
            for at in range(len(LONG)):
                one.take(at + 1)
                self.assertEqual(one.worths(), running(rule, LONG[at + 1:]))

    def test_they_keep_their_sum(self):
        one = ledger(rule=Rule(32, 7, STEEP))
        for played in LONG:
            one.put(played)
            whole = (0, 1)
            for name, worth in one.worths():
                whole = plus(whole, worth)
            self.assertEqual(whole, (7 * len(one.worths()), 1))

    def test_put_in_whatever_order_of_days(self):
        one = ledger()
        two = ledger()
        for played in LONG:
            one.put(played)
        for played in sorted(LONG, key=lambda played: -played[0]):
            two.put(played)
        self.assertEqual(state(one), state(two))

    def test_put_in_and_taken_back_all_is_as_it_was(self):
        for played in [(day, name, other, 2, 0) for day in (0, 5, 33, 9999) for name, other in [("ann", "bob"), ("gus", "fay")]]:
            one = Ledger(Rule(32, 1500, PLAIN))
            for before in LONG:
                one.put(before)
            kept = state(one)
            number, found = one.put(played)
            self.assertNotEqual(state(one), kept)
            self.assertEqual(one.take(number), found)
            self.assertEqual(state(one), kept)


class Reached(unittest.TestCase):
    def test_its_two_players(self):
        one = ledger()
        self.assertEqual(one.put(read_game("1 bob beat ann")), (1, ["ann", "bob"]))
        self.assertEqual(one.put(read_game("1 cid lost dan")), (2, ["cid", "dan"]))
        self.assertEqual(one.take(1), ["ann", "bob"])
        self.assertEqual(one.take(2), ["cid", "dan"])

    def test_none_through_games_ahead_of_it(self):
        one = ledger("1 ann beat bob; 2 bob beat cid")
        self.assertEqual(one.put(read_game("3 cid beat dan")), (3, ["cid", "dan"]))
        self.assertEqual(one.put(read_game("2 cid beat dan")), (4, ["cid", "dan"]))
        self.assertEqual(one.take(3), ["cid", "dan"])

    def test_step_by_step_through_later_games(self):
        text = "5 bob beat cid; 6 cid drew dan; 7 eve beat fay; 8 dan beat eve; 9 gus beat hal"
        one = ledger(text)
        self.assertEqual(one.put(read_game("4 ann beat bob")), (6, ["ann", "bob", "cid", "dan", "eve"]))
        self.assertEqual(one.take(6), ["ann", "bob", "cid", "dan", "eve"])
        self.assertEqual(one.put(read_game("5 ann beat bob")), (7, ["ann", "bob"]))
        self.assertEqual(one.put(read_game("6 ann beat fay")), (8, ["ann", "dan", "eve", "fay"]))

    def test_a_game_ahead_of_the_reaching_one_hands_nothing_on(self):
        # fay met eve before eve was reached.
        one = ledger("5 ann beat bob; 6 eve beat fay; 7 bob beat eve")
        self.assertEqual(one.take(1), ["ann", "bob", "eve"])

    def test_of_one_day_only_those_put_in_later(self):
        one = ledger("5 bob beat cid; 5 ann beat bob; 5 bob beat dan; 5 dan beat eve; 5 eve beat cid")
        self.assertEqual(one.take(2), ["ann", "bob", "cid", "dan", "eve"])
        one = ledger("5 bob beat cid; 5 ann beat bob; 5 dan beat eve; 5 bob beat dan")
        self.assertEqual(one.take(2), ["ann", "bob", "dan"])
        self.assertEqual(one.put(read_game("5 ann beat bob")), (5, ["ann", "bob"]))

    def test_of_equal_games_the_numbered_one_counts(self):
        text = "5 ann beat bob; 5 bob beat cid; 5 ann beat bob"
        self.assertEqual(ledger(text).take(1), ["ann", "bob", "cid"])
        self.assertEqual(ledger(text).take(3), ["ann", "bob"])

    def test_through_either_player(self):
        for later in ("6 bob beat cid", "6 cid beat bob", "6 ann beat cid", "6 cid beat ann"):
            self.assertEqual(ledger(later).put(read_game("5 ann beat bob")), (2, ["ann", "bob", "cid"]))

    def test_one_who_has_no_game_any_more(self):
        one = ledger("5 zoe beat ann; 6 ann beat bob")
        self.assertEqual(one.take(1), ["ann", "bob", "zoe"])
        self.assertEqual([name for name, worth in one.worths()], ["ann", "bob"])
        with self.assertRaises(NoPlayer):
            one.worth("zoe")
        self.assertEqual(one.take(2), ["ann", "bob"])
        self.assertEqual(one.worths(), [])

    def test_also_where_no_worth_moves(self):
        # By a step of 0 nothing moves; who is reached hangs on the book alone.
        one = ledger("5 bob beat cid", Rule(0, 1500, PLAIN))
        self.assertEqual(one.put(read_game("4 ann drew bob")), (2, ["ann", "bob", "cid"]))

    def test_by_the_words(self):
        for games in three()[::3] + four()[::29] + [LONG]:
            games = [(played[0] * 7 % 4,) + played[1:] if len(games) < 20 else played for played in games]
            one = Ledger(Rule(32, 1500, PLAIN))
            for at, played in enumerate(games):
                self.assertEqual(one.put(played), (at + 1, reached_from(games[:at + 1], at)))
            for at in range(len(games)):
                self.assertEqual(one.take(at + 1), reached_from(games[at:], 0))
            one = Ledger(Rule(32, 1500, PLAIN))
            for played in games:
                one.put(played)
            for at in reversed(range(len(games))):
                self.assertEqual(one.take(at + 1), reached_from(games[:at + 1], at))

    def test_nobody_elses_worth_changes(self):
        moved = 0
        for kind, more in KINDS:
            rule = getattr(rules, kind)(32, 1500, STEEP, *more)
            for at in range(len(LONG)):
                one = Ledger(rule)
                for played in LONG:
                    one.put(played)
                before = dict(one.worths())
                found = one.take(at + 1)
                after = dict(one.worths())
                for name in set(before) | set(after):
                    if name not in found:
                        self.assertEqual(before[name], after[name])
                    elif before.get(name) != after.get(name):
                        moved += 1
                number, found = one.put(LONG[at])
                again = dict(one.worths())
                for name in set(again) | set(after):
                    if name not in found:
                        self.assertEqual(again[name], after[name])
        self.assertGreater(moved, 100)


class Refused(unittest.TestCase):
    def test_the_forty_first_game(self):
        one = ledger(many(39))
        self.assertEqual(one.put(read_game("0 ann beat bob"))[0], 40)
        kept = state(one)
        for text in ("0 ann beat bob", "9999 ann beat bob", "50 ann beat zoe"):
            with self.subTest(text), self.assertRaises(NoBook):
                one.put(read_game(text))
            self.assertEqual(state(one), kept)
        one.take(1)
        self.assertEqual(one.put(read_game("0 ann beat bob"))[0], 41)
        with self.assertRaises(NoBook):
            one.put(read_game("0 ann beat bob"))

    def test_the_ninth_player(self):
        one = ledger("1 ann beat bob; 2 cid beat dan; 3 eve beat fay; 4 gus beat hal; 5 ann beat hal")
        kept = state(one)
        for text in ("6 ann beat ida", "6 ida beat ann", "0 ida beat jon"):
            with self.subTest(text), self.assertRaises(NoBook):
                one.put(read_game(text))
            self.assertEqual(state(one), kept)
        # hal and ann are still there, gus is not.
        one.take(4)
        self.assertEqual(one.put(read_game("6 ann beat ida"))[0], 6)
        with self.assertRaises(NoBook):
            one.put(read_game("6 ann beat gus"))

    def test_two_new_players_where_one_more_has_room(self):
        one = ledger("1 ann beat bob; 2 cid beat dan; 3 eve beat fay; 4 gus beat ann")
        kept = state(one)
        with self.assertRaises(NoBook):
            one.put(read_game("6 ida beat jon"))
        self.assertEqual(state(one), kept)
        self.assertEqual(one.put(read_game("6 ida beat ann")), (5, ["ann", "ida"]))

    def test_a_number_that_no_game_has(self):
        one = ledger("1 ann beat bob; 2 ann beat cid")
        kept = state(one)
        for number in (0, 3, 4, -1, -2, 40, 10 ** 50):
            with self.subTest(number), self.assertRaises(NoGame):
                one.take(number)
            self.assertEqual(state(one), kept)
        for number in (0, 1):
            with self.assertRaises(NoGame):
                ledger().take(number)

    def test_a_number_that_no_game_has_any_more(self):
        one = ledger("1 ann beat bob; 2 ann beat cid")
        one.take(1)
        kept = state(one)
        with self.assertRaises(NoGame):
            one.take(1)
        self.assertEqual(state(one), kept)
        one.put(read_game("1 ann beat bob"))
        with self.assertRaises(NoGame):
            one.take(1)
        self.assertEqual(one.take(3), ["ann", "bob", "cid"])

    def test_the_worth_of_who_has_no_game(self):
        one = ledger("1 ann beat bob; 2 ann beat cid")
        kept = state(one)
        for name in ("zoe", "an", "annn", "", "ANN", "ann "):
            with self.subTest(name), self.assertRaises(NoPlayer):
                one.worth(name)
            self.assertEqual(state(one), kept)
        one.take(2)
        with self.assertRaises(NoPlayer):
            one.worth("cid")
        self.assertEqual(one.worth("ann"), (1516, 1))
        with self.assertRaises(NoPlayer):
            ledger().worth("ann")


class Own(unittest.TestCase):
    def test_two_ledgers_beside_one_another(self):
        rule = Rule(32, 1500, PLAIN)
        one = Ledger(rule)
        two = Ledger(rule)
        self.assertEqual(one.put(read_game("1 ann beat bob"))[0], 1)
        self.assertEqual(two.games(), [])
        self.assertEqual(two.put(read_game("7 cid beat dan"))[0], 1)
        self.assertEqual(two.put(read_game("8 cid beat dan"))[0], 2)
        one.take(1)
        self.assertEqual(one.games(), [])
        self.assertEqual(two.games(), read_book("7 cid beat dan; 8 cid beat dan"))
        with self.assertRaises(NoGame):
            one.take(2)
        with self.assertRaises(NoPlayer):
            one.worth("cid")
        self.assertEqual(one.put(read_game("1 ann beat bob"))[0], 2)

    def test_told_lists_are_the_askers_own(self):
        one = ledger("1 ann beat bob; 2 bob beat cid")
        kept = state(one)
        for told in (one.games(), one.worths()):
            told.clear()
        found = one.put(read_game("0 ann beat bob"))[1]
        found.append("zoe")
        one.take(3).append("zoe")
        self.assertEqual(state(one), kept)

    def test_told_lists_stay(self):
        one = ledger("1 ann beat bob; 2 bob beat cid")
        told = [one.games(), one.worths(), one.put(read_game("0 ann beat bob")), one.take(3)]
        kept = deepcopy(told)
        one.put(read_game("1 dan beat bob"))
        one.take(1)
        one.take(2)
        self.assertEqual(told, kept)

    def test_a_table_changed_later_changes_nothing(self):
        table = list(PLAIN)
        one = ledger("1 ann beat bob; 2 ann beat bob; 3 ann beat bob; 4 ann beat bob", Rule(32, 1500, table))
        kept = state(one)
        table.reverse()
        table.clear()
        self.assertEqual(state(one), kept)

    def test_a_rule_changed_later_changes_nothing(self):
        for rule in (Rule(32, 1500, PLAIN), Early(32, 1500, PLAIN, 40, 2), Rested(32, 1500, PLAIN, 3, 2),
                     Capped(32, 1500, PLAIN, 5)):
            one = Ledger(rule)
            for played in LONG:
                one.put(played)
            kept = state(one)
            self.assertEqual(one.worths(), running(rule, LONG))
            for field, held in vars(rule).items():
                setattr(rule, field, 7 if isinstance(held, int) else [(0, (1, 2))])
            self.assertEqual(state(one), kept)
            self.assertNotEqual(one.worths(), running(rule, LONG))

    def test_the_rule_handed_in_stays(self):
        rule = Early(32, 1500, PLAIN, 40, 2)
        before = deepcopy(vars(rule))
        one = Ledger(rule)
        for played in LONG:
            one.put(played)
        one.worths()
        self.assertEqual(vars(rule), before)

    def test_asking_changes_nothing(self):
        one = ledger("1 ann beat bob; 2 bob beat cid")
        kept = state(one)
        for turn in range(3):
            self.assertEqual(state(one), kept)
        self.assertEqual(names_of(one.games()), ["ann", "bob", "cid"])


if __name__ == "__main__":
    unittest.main()
