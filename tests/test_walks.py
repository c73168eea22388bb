import unittest
from itertools import permutations

from ladderworth import rules
from ladderworth.books import in_order, players, read_book
from ladderworth.games import turned
from ladderworth.ratios import fraction, minus, plus, times
from ladderworth.rules import Capped, Early, Rested, Rule
from ladderworth.walks import running, trail
from tests.reference import FLAT, KINDS, LONG, PLAIN, STEEP, four, ordered, three, walked

FULL = read_book("; ".join(f"{day * 7 % 50} {one} {word} {other}" for day, (one, word, other) in enumerate(
    [("ann", "beat", "bob"), ("bob", "drew", "cid"), ("dan", "lost", "eve"), ("fay", "beat", "gus"), ("hal", "drew", "ann")] * 8)))


def rule_of(kind, more, step=32, first=1500, table=tuple(PLAIN)):
    return getattr(rules, kind)(step, first, list(table), *more)


def whole(worths):
    found = (0, 1)
    for name, worth in worths:
        found = plus(found, worth)
    return found


def some_books():
    return [[], LONG, FULL] + three()[::5] + four()[::101]


class Trails(unittest.TestCase):
    def test_without_games(self):
        for kind, more in KINDS:
            self.assertEqual(trail(rule_of(kind, more), []), [])
            self.assertEqual(running(rule_of(kind, more), []), [])

    def test_by_hand(self):
        games = read_book("4 cid drew bob*; 1 ann beat bob; 2 ann beat bob; 3 bob* beat ann")
        self.assertEqual(trail(Rule(32, 1500, PLAIN), games), [
            ((1, "ann", "bob", 2, 0), (1500, 1), (1500, 1), (16, 1)),
            ((2, "ann", "bob", 2, 0), (1516, 1), (1484, 1), (16, 1)),
            ((3, "bob", "ann", 2, 1), (1468, 1), (1532, 1), (96, 5)),
            ((4, "cid", "bob", 1, -1), (1500, 1), (7436, 5), (0, 1))])
        self.assertEqual(running(Rule(32, 1500, PLAIN), games),
                         [("ann", (7564, 5)), ("bob", (7436, 5)), ("cid", (1500, 1))])

    def test_a_lost_game_by_hand(self):
        games = [(1, "bob", "ann", 0, 1)]
        self.assertEqual(trail(Rule(10, 7, PLAIN), games), [(games[0], (7, 1), (7, 1), (-5, 1))])
        self.assertEqual(running(Rule(10, 7, PLAIN), games), [("ann", (12, 1)), ("bob", (2, 1))])

    def test_worths_may_fall_below_zero(self):
        games = [(1, "ann", "bob", 0, 0)]
        self.assertEqual(running(Rule(10, 0, PLAIN), games), [("ann", (-5, 1)), ("bob", (5, 1))])

    def test_games_of_one_day_as_they_stand(self):
        beat = (3, "ann", "bob", 2, 0)
        lost = (3, "ann", "bob", 0, 0)
        ahead = (2, "ann", "cid", 2, 0)
        rule = Rule(128, 0, [(0, (1, 2)), (100, (1, 1))])
        self.assertEqual([step[0] for step in trail(rule, [beat, lost, ahead])], [ahead, beat, lost])
        self.assertEqual([step[0] for step in trail(rule, [lost, beat, ahead])], [ahead, lost, beat])
        self.assertEqual([step[3] for step in trail(rule, [beat, lost, ahead])], [(64, 1), (64, 1), (-128, 1)])
        self.assertEqual([step[3] for step in trail(rule, [lost, beat, ahead])], [(64, 1), (-64, 1), (64, 1)])
        self.assertNotEqual(running(rule, [beat, lost, ahead]), running(rule, [lost, beat, ahead]))

    def test_a_first_game_late_in_the_book(self):
        seen = []
        for played, before, other_before, bit in trail(Rule(32, 1500, PLAIN), LONG):
            for name, worth in ((played[1], before), (played[2], other_before)):
                if name not in seen:
                    self.assertEqual(worth, (1500, 1))
                    seen.append(name)
        self.assertEqual(sorted(seen), players(LONG))
        last = trail(Rule(32, 1500, PLAIN), read_book("1 ann beat bob; 2 ann beat bob; 3 zoe lost ann"))[2]
        self.assertEqual(last, ((3, "zoe", "ann", 0, 0), (1500, 1), (1532, 1), (-16, 1)))

    def test_by_the_words(self):
        for games in some_books():
            for kind, more in KINDS:
                for table in (PLAIN, STEEP):
                    steps, worths = walked(kind, 33, 1500, table, more, games)
                    rule = rule_of(kind, more, step=33, table=table)
                    with self.subTest(kind=kind, more=more, games=games):
                        self.assertEqual(trail(rule, games), steps)
                        self.assertEqual(running(rule, games), worths)

    def test_by_the_words_at_other_steps_and_firsts(self):
        for step, first in [(0, 0), (1, 0), (10 ** 6, 10 ** 6), (0, 7), (10 ** 6, 0)]:
            for kind, more in KINDS:
                for table in (FLAT, PLAIN, STEEP):
                    steps, worths = walked(kind, step, first, table, more, LONG)
                    rule = rule_of(kind, more, step, first, table)
                    self.assertEqual(trail(rule, LONG), steps)
                    self.assertEqual(running(rule, LONG), worths)

    def test_each_worth_ahead_is_what_the_games_ahead_left(self):
        rule = rule_of("Early", (40, 2))
        steps = trail(rule, LONG)
        for at, (played, before, other_before, bit) in enumerate(steps):
            ahead = dict(running(rule, ordered(LONG)[:at]))
            self.assertEqual(before, ahead.get(played[1], (1500, 1)))
            self.assertEqual(other_before, ahead.get(played[2], (1500, 1)))
            behind = dict(running(rule, ordered(LONG)[:at + 1]))
            self.assertEqual(behind[played[1]], plus(before, bit))
            self.assertEqual(behind[played[2]], minus(other_before, bit))

    def test_kinds(self):
        steps = trail(Rule(33, 1500, PLAIN), LONG)
        self.assertIs(type(steps), list)
        for step in steps:
            self.assertIs(type(step), tuple)
            self.assertEqual(len(step), 4)
            for one in step[1:]:
                self.assertIs(type(one), tuple)
                self.assertEqual(one, fraction(*one))
        worths = running(Rule(33, 1500, PLAIN), LONG)
        self.assertIs(type(worths), list)
        for row in worths:
            self.assertIs(type(row), tuple)
            self.assertEqual(row[1], fraction(*row[1]))
        self.assertEqual([name for name, worth in worths], players(LONG))


class Sizes(unittest.TestCase):
    def bits(self, rule, text):
        return [step[3] for step in trail(rule, read_book(text))]

    def test_early_counts_for_each_of_both(self):
        rule = Early(2, 0, FLAT, 20, 2)
        # The third game is bob's third, but cid's first; then cid's second; then both have played two.
        self.assertEqual(self.bits(rule, "1 ann beat bob; 2 ann beat bob; 3 bob beat cid; 4 cid beat ann; 5 ann beat cid; 6 bob beat ann"),
                         [(10, 1), (10, 1), (10, 1), (10, 1), (1, 1), (1, 1)])

    def test_early_at_many_whoever_is_told_first(self):
        rule = Early(2, 0, FLAT, 20, 1)
        for last, bit in [("3 ann beat cid", (10, 1)), ("3 cid lost ann", (-10, 1)), ("3 ann beat bob", (1, 1)),
                          ("3 bob lost ann", (-1, 1))]:
            self.assertEqual(self.bits(rule, "1 ann beat bob; 2 ann beat bob; " + last), [(10, 1), (1, 1), bit])

    def test_early_counts_games_of_the_same_day(self):
        self.assertEqual(self.bits(Early(2, 0, FLAT, 20, 2), "7 ann beat bob; 7 ann beat bob; 7 ann beat bob"),
                         [(10, 1), (10, 1), (1, 1)])

    def test_rested_below_at_and_above_pause(self):
        rule = Rested(2, 0, FLAT, 5, 10)
        for day, bit in [(3, (1, 1)), (7, (1, 1)), (8, (1, 1)), (9, (10, 1)), (9999, (10, 1))]:
            self.assertEqual(self.bits(rule, f"3 ann beat bob; {day} ann beat bob"), [(1, 1), bit])

    def test_rested_where_one_of_both_rested(self):
        rule = Rested(2, 0, FLAT, 5, 10)
        for last in ("10 ann beat bob", "10 bob beat ann"):
            # ann rested nine days, bob one.
            self.assertEqual(self.bits(rule, "1 ann beat cid; 9 bob beat cid; " + last), [(1, 1), (10, 1), (10, 1)])
            # Both played of late.
            self.assertEqual(self.bits(rule, "1 ann beat cid; 6 ann beat bob; " + last), [(1, 1), (1, 1), (1, 1)])

    def test_rested_at_a_first_game(self):
        rule = Rested(2, 0, FLAT, 0, 10)
        self.assertEqual(self.bits(rule, "100 ann beat bob"), [(1, 1)])
        for last in ("100 ann beat cid", "100 cid beat ann"):
            self.assertEqual(self.bits(rule, "100 ann beat bob; " + last), [(1, 1), (1, 1)])
        for last in ("101 ann beat cid", "101 cid beat ann"):
            self.assertEqual(self.bits(rule, "100 ann beat bob; " + last), [(1, 1), (10, 1)])
        self.assertEqual(self.bits(rule, "0 ann beat bob; 5 cid beat dan"), [(1, 1), (1, 1)])

    def test_rested_counts_from_the_last_game_alone(self):
        self.assertEqual(self.bits(Rested(2, 0, FLAT, 5, 10), "0 ann beat bob; 5 ann beat bob; 10 ann beat bob"),
                         [(1, 1), (1, 1), (1, 1)])
        self.assertEqual(self.bits(Rested(2, 0, FLAT, 5, 10), "10 ann beat bob; 5 ann beat bob; 0 ann beat bob"),
                         [(1, 1), (1, 1), (1, 1)])

    def test_capped(self):
        rule = Capped(100, 0, PLAIN, 12)
        self.assertEqual(self.bits(rule, "1 ann beat bob; 2 ann lost bob; 3 ann drew bob"), [(12, 1), (-12, 1), (0, 1)])
        self.assertEqual(running(rule, read_book("1 ann beat bob")), [("ann", (12, 1)), ("bob", (-12, 1))])

    def test_what_a_rule_is_asked(self):
        asked = []

        class Asked(Rule):
            def bit(self, difference, halves, played, rest):
                asked.append((difference, halves, played, rest))
                return (1, 1)

        trail(Asked(1, 0, FLAT), read_book("3 ann beat bob; 5 bob drew ann*; 9 cid lost ann; 9 ann beat cid; 20 bob beat cid"))
        self.assertEqual(asked, [((0, 1), 2, 0, 0), ((-2, 1), 1, 1, 2), ((0, 1), 0, 0, 4), ((-2, 1), 2, 1, 0),
                                 ((0, 1), 2, 2, 15)])


class Promised(unittest.TestCase):
    def test_all_worths_together(self):
        for games in some_books():
            for kind, more in KINDS:
                for first in (0, 1, 1500):
                    rule = rule_of(kind, more, first=first, table=STEEP)
                    self.assertEqual(whole(running(rule, games)), times((first, 1), (len(players(games)), 1)))

    def test_none_is_moved_who_did_not_play(self):
        for kind, more in KINDS:
            rule = rule_of(kind, more)
            for at, played in enumerate(ordered(LONG)):
                ahead = dict(running(rule, ordered(LONG)[:at]))
                behind = dict(running(rule, ordered(LONG)[:at + 1]))
                for name in ahead:
                    if name not in played[1:3]:
                        self.assertEqual(behind[name], ahead[name])

    def test_told_in_another_order_of_days(self):
        # The last day first, the games of one day as they stood.
        again = sorted(LONG, key=lambda played: -played[0])
        for kind, more in KINDS:
            rule = rule_of(kind, more)
            for games in (again, in_order(LONG)):
                self.assertEqual(trail(rule, games), trail(rule, LONG))
                self.assertEqual(running(rule, games), running(rule, LONG))

    def test_told_in_each_order(self):
        games = read_book("1 ann beat bob; 2 bob beat cid; 9 cid drew ann; 10 bob beat ann; 30 dan beat ann")
        for kind, more in KINDS:
            rule = rule_of(kind, more)
            for again in permutations(games):
                self.assertEqual(trail(rule, list(again)), trail(rule, games))
                self.assertEqual(running(rule, list(again)), running(rule, games))

    def test_each_game_turned_about(self):
        for games in some_books():
            for kind, more in KINDS:
                rule = rule_of(kind, more, table=STEEP)
                self.assertEqual(running(rule, [turned(played) for played in games]), running(rule, games))
                half = [turned(played) if at % 2 else played for at, played in enumerate(games)]
                self.assertEqual(running(rule, half), running(rule, games))
                back = [(turned(played), other_before, before, (-bit[0], bit[1]))
                        for played, before, other_before, bit in trail(rule, games)]
                self.assertEqual(trail(rule, [turned(played) for played in games]), back)

    def test_the_side_does_not_matter(self):
        for side in (-1, 0, 1):
            games = [(day, one, other, halves, side) for day, one, other, halves, had in LONG]
            for kind, more in KINDS:
                rule = rule_of(kind, more)
                self.assertEqual(running(rule, games), running(rule, LONG))
                self.assertEqual([step[1:] for step in trail(rule, games)], [step[1:] for step in trail(rule, LONG)])

    def test_one_rule_for_many_walks(self):
        for kind, more in KINDS:
            rule = rule_of(kind, more)
            kept = (trail(rule, LONG), running(rule, LONG))
            running(rule, FULL)
            trail(rule, [])
            self.assertEqual((trail(rule, LONG), running(rule, LONG)), kept)
            self.assertEqual(rule.first, 1500)


if __name__ == "__main__":
    unittest.main()
