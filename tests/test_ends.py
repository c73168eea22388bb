import unittest
from itertools import product

from ladderworth.above import verdict
from ladderworth.books import players, read_book
from ladderworth.ends import ends, lowered, lowers, raised, uppers
from ladderworth.errors import NoFit, NoPlayer
from ladderworth.ratios import fraction
from ladderworth.stretches import stretch
from tests.reference import (MOST, fitted, is_settled, lowered_to, names_of, raised_to, row_of, sum_with, three, value)

EDGES = [None, (3, 2), (1, 9), (9, 1)]
EVEN = read_book("1 ann drew bob")
THREE_TO_ONE = read_book("1 ann beat bob; 2 ann beat bob; 3 ann beat bob; 4 bob beat ann")
RING = read_book("1 ann beat bob; 1 bob beat cid; 1 cid beat ann")
# ann is worth 169 times cid, which goes beyond the greatest number at a scale of 1000.
STEEP = read_book("; ".join(["1 bob beat cid"] * 13 + ["2 cid beat bob"] + ["3 ann beat bob"] * 13 + ["4 bob beat ann"]))
TAIL = read_book("1 ann beat bob; 2 ann beat bob; 3 ann beat bob; 4 bob beat ann; 5 bob beat cid; 6 cid beat bob")
ROWS = [[1, 1, 1], [0, 0, 0], [MOST, MOST, MOST], [0, 7, MOST], [MOST, 0, 3], [1000, 17, 333], [5, MOST, 1]]


def ones():
    return [games for games in three() if verdict(games)[0] == "one"]


class RaisedAndLowered(unittest.TestCase):
    def test_some_by_hand(self):
        for games, numbers, name, edge, up, down in [
                (EVEN, [10, 99], "bob", None, 10, 10), (EVEN, [99, 10], "ann", None, 10, 10),
                (THREE_TO_ONE, [9, 9], "ann", None, 27, 27), (THREE_TO_ONE, [9, 9], "bob", None, 3, 3),
                (THREE_TO_ONE, [10, 9], "bob", None, 4, 3), (THREE_TO_ONE, [11, 9], "bob", None, 4, 3),
                (read_book("1 ann* drew bob"), [10, 9], "bob", (3, 2), 15, 15),
                (read_book("1 ann* drew bob"), [10, 9], "ann", (3, 2), 6, 6),
                (read_book("1 ann drew bob*"), [10, 9], "bob", (3, 2), 7, 6),
                (RING, [100, 5, 1], "bob", None, 10, 10), (RING, [100, 5, 2], "bob", None, 15, 14)]:
            with self.subTest(games=games, numbers=numbers, name=name, edge=edge):
                self.assertEqual(raised(games, numbers, name, edge), up)
                self.assertEqual(lowered(games, numbers, name, edge), down)

    def test_the_least_number(self):
        # At 1 the sum is already above 0: so it stays 1 when raised, and no number is left when lowered.
        self.assertEqual(raised(THREE_TO_ONE, [1, 9], "bob"), 1)
        self.assertEqual(lowered(THREE_TO_ONE, [1, 9], "bob"), 0)
        self.assertEqual(raised(THREE_TO_ONE, [2, 9], "bob"), 1)
        self.assertEqual(lowered(THREE_TO_ONE, [2, 9], "bob"), 0)
        # At 1 it is just 0.
        self.assertEqual(raised(THREE_TO_ONE, [3, 9], "bob"), 1)
        self.assertEqual(lowered(THREE_TO_ONE, [3, 9], "bob"), 1)
        # At 1 it is below 0.
        self.assertEqual(raised(THREE_TO_ONE, [4, 9], "bob"), 2)
        self.assertEqual(lowered(THREE_TO_ONE, [4, 9], "bob"), 1)

    def test_the_greatest_number(self):
        for number, up, down in [(33333, 99999, 99999), (33334, MOST, MOST), (99999, MOST, MOST), (MOST, MOST, MOST)]:
            self.assertEqual(raised(THREE_TO_ONE, [1, number], "ann"), up)
            self.assertEqual(lowered(THREE_TO_ONE, [1, number], "ann"), down)
        self.assertEqual(raised(EVEN, [1, MOST], "ann"), MOST)
        self.assertEqual(lowered(EVEN, [1, MOST], "ann"), MOST)
        self.assertEqual(raised(EVEN, [1, MOST - 1], "ann"), MOST - 1)
        self.assertEqual(lowered(EVEN, [1, MOST - 1], "ann"), MOST - 1)
        self.assertEqual(raised(read_book("1 ann* drew bob"), [99999, 1], "bob", (1, 2)), 50000)
        self.assertEqual(lowered(read_book("1 ann* drew bob"), [99999, 1], "bob", (1, 2)), 49999)

    def test_won_and_lost_alone(self):
        # Who won all has a sum below 0 at each number, who lost all above 0.
        games = read_book("1 ann beat bob; 2 ann beat bob")
        self.assertEqual(raised(games, [5, 5], "ann"), MOST)
        self.assertEqual(lowered(games, [5, 5], "ann"), MOST)
        self.assertEqual(raised(games, [5, 5], "bob"), 1)
        self.assertEqual(lowered(games, [5, 5], "bob"), 0)

    def test_numbers_of_nothing(self):
        # Against 0 each share is 1.
        self.assertEqual(raised(EVEN, [0, 5], "bob"), 1)
        self.assertEqual(lowered(EVEN, [0, 5], "bob"), 0)
        games = read_book("1 ann beat bob; 2 ann drew cid")
        self.assertEqual(raised(games, [7, 0, 7], "ann"), 7)
        self.assertEqual(lowered(games, [7, 0, 7], "ann"), 7)
        won = read_book("1 ann beat bob")
        self.assertEqual(raised(won, [7, 0], "ann"), 1)
        self.assertEqual(lowered(won, [7, 0], "ann"), MOST)

    def test_the_own_number_does_not_matter(self):
        for own in (0, 1, 5, MOST):
            self.assertEqual(raised(RING, [100, own, 2], "bob"), 15)
            self.assertEqual(lowered(RING, [100, own, 2], "bob"), 14)
            self.assertEqual(lowered(EVEN, [0, own], "bob"), 0)

    def test_no_edge_told(self):
        games = read_book("1 ann* drew bob")
        for asked in (raised, lowered):
            self.assertEqual(asked(games, [10, 9], "bob"), 10)
            self.assertEqual(asked(games, [10, 9], "bob", None), 10)
            self.assertEqual(asked(games, [10, 9], "bob", (1, 1)), 10)
            self.assertEqual(asked(games, [10, 9], "bob", (2, 1)), 20)

    def test_small_books(self):
        for at, games in enumerate(three()[1::3]):
            edge = EDGES[at % len(EDGES)]
            names = names_of(games)
            numbers = ROWS[at % len(ROWS)][:len(names)]
            for name in names:
                with self.subTest(games=games, numbers=numbers, name=name, edge=edge):
                    self.assertEqual(raised(games, numbers, name, edge), raised_to(games, numbers, name, edge))
                    self.assertEqual(lowered(games, numbers, name, edge), lowered_to(games, numbers, name, edge))

    def test_one_beside_it_would_not_do(self):
        for at, games in enumerate(three()[2::5]):
            names = names_of(games)
            numbers = ROWS[at % len(ROWS)][:len(names)]
            for name in names:
                up = raised(games, numbers, name, (3, 2))
                down = lowered(games, numbers, name, (3, 2))
                if up > 1:
                    self.assertLess(sum_with(games, numbers, name, up - 1, (3, 2)), 0)
                if up < MOST:
                    self.assertGreaterEqual(sum_with(games, numbers, name, up, (3, 2)), 0)
                if down > 0:
                    self.assertLessEqual(sum_with(games, numbers, name, down, (3, 2)), 0)
                if down < MOST:
                    self.assertGreater(sum_with(games, numbers, name, down + 1, (3, 2)), 0)

    def test_they_are_whole_numbers(self):
        self.assertIs(type(raised(EVEN, [10, 99], "bob")), int)
        self.assertIs(type(lowered(EVEN, [10, 99], "bob")), int)


class Rows(unittest.TestCase):
    def test_no_rounds(self):
        self.assertEqual(uppers(RING, "bob", 70, 0), ([1, 70, 1], False))
        self.assertEqual(lowers(RING, "bob", 70, 0), ([MOST, 70, MOST], False))
        self.assertEqual(uppers(EVEN, "ann", 1, 0), ([1, 1], True))
        self.assertEqual(lowers(EVEN, "ann", 1, 0), ([1, MOST], False))
        self.assertEqual(uppers(EVEN, "bob", 1000, 0), ([1, 1000], False))

    def test_one_round(self):
        for scale in (1, 2, 999, 1000):
            self.assertEqual(uppers(EVEN, "ann", scale, 1), ([scale, scale], True))
            self.assertEqual(lowers(EVEN, "ann", scale, 1), ([scale, scale], True))
        self.assertEqual(uppers(THREE_TO_ONE, "ann", 10, 1), ([10, 4], True))
        self.assertEqual(lowers(THREE_TO_ONE, "ann", 10, 1), ([10, 3], True))
        self.assertEqual(uppers(THREE_TO_ONE, "bob", 10, 1), ([30, 10], True))
        self.assertEqual(lowers(THREE_TO_ONE, "bob", 10, 1), ([30, 10], True))

    def test_each_player_finds_the_numbers_as_they_have_become(self):
        # bob goes to the root of 100 times 1, then cid to that of bob's new number times 100.
        self.assertEqual(uppers(RING, "ann", 100, 1), ([100, 10, 32], False))
        self.assertEqual(uppers(RING, "ann", 100, 2), ([100, 57, 76], False))
        self.assertEqual(lowers(RING, "ann", 100, 1), ([100, 3162, 562], False))
        self.assertEqual(lowers(RING, "ann", 100, 2), ([100, 237, 153], False))

    def test_twelve_rounds(self):
        self.assertEqual(uppers(RING, "ann", 100, 12), ([100, 100, 100], True))
        self.assertEqual(lowers(RING, "ann", 100, 12), ([100, 100, 100], True))
        self.assertEqual(lowers(STEEP, "cid", 1000, 12), ([MOST, 10000, 1000], True))
        self.assertEqual(uppers(STEEP, "cid", 1000, 12), ([MOST, 10000, 1000], False))

    def test_the_least_bit_below_or_above_is_not_settled(self):
        self.assertEqual(uppers(EVEN, "ann", 2, 0), ([2, 1], False))
        games = read_book("1 bob drew cid; 2 cid drew ann")
        self.assertEqual(lowers(games, "ann", 10, 7), ([10, 11, 10], False))
        self.assertEqual(lowers(games, "ann", 10, 8), ([10, 10, 10], True))

    def test_a_settled_row_stays(self):
        for games in ones()[::5]:
            for asked in (uppers, lowers):
                numbers, settled = asked(games, "bob", 6, 8)
                if settled:
                    self.assertEqual(asked(games, "bob", 6, 12), (numbers, True))

    def test_numbers_of_nothing_are_not_asked(self):
        self.assertEqual(lowers(THREE_TO_ONE, "ann", 1, 1), ([1, 0], True))
        self.assertEqual(lowers(THREE_TO_ONE, "ann", 2, 12), ([2, 0], True))
        self.assertEqual(lowers(TAIL, "ann", 1, 1), ([1, 0, 0], True))
        self.assertEqual(lowers(TAIL, "ann", 1, 12), ([1, 0, 0], True))

    def test_kinds(self):
        for asked in (uppers, lowers):
            told = asked(RING, "ann", 10, 2)
            self.assertIs(type(told), tuple)
            self.assertIs(type(told[0]), list)
            self.assertTrue(all(type(number) is int for number in told[0]))
            self.assertIs(type(told[1]), bool)
            self.assertEqual(len(told), 2)

    def test_no_edge_told(self):
        games = read_book("1 ann* drew bob")
        for asked in (uppers, lowers):
            self.assertEqual(asked(games, "ann", 10, 1), ([10, 10], True))
            self.assertEqual(asked(games, "ann", 10, 1, None), ([10, 10], True))
            self.assertEqual(asked(games, "ann", 10, 1, (3, 2)), ([10, 15], True))
            self.assertEqual(asked(games, "bob", 30, 1, (3, 2)), ([20, 30], True))

    def test_small_books(self):
        seen = set()
        for at, games in enumerate(ones()[::3]):
            edge = EDGES[at % len(EDGES)]
            anchor = players(games)[at % len(players(games))]
            scale = (1, 2, 7, 60, 1000)[at % 5]
            rounds = (0, 1, 2, 3, 12)[(at // 2) % 5]
            for asked, upper in ((uppers, True), (lowers, False)):
                told = asked(games, anchor, scale, rounds, edge)
                with self.subTest(games=games, anchor=anchor, scale=scale, rounds=rounds, edge=edge, upper=upper):
                    self.assertEqual(told, row_of(games, anchor, scale, rounds, edge, upper))
                seen.add((upper, told[1]))
        self.assertEqual(len(seen), 4)


class SettledRows(unittest.TestCase):
    def test_they_lie_above_and_below_worths_that_fit(self):
        seen = {(upper, settled): 0 for upper in (True, False) for settled in (True, False)}
        for games, worths, edge in fitted():
            names = players(games)
            for at, scale, rounds in product(range(len(names)), (1, 3, 10, 60, 1000), (0, 1, 3, 12)):
                right = [value(worth) / value(worths[at]) for worth in worths]
                high, high_settled = uppers(games, names[at], scale, rounds, edge)
                low, low_settled = lowers(games, names[at], scale, rounds, edge)
                seen[(True, high_settled)] += 1
                seen[(False, low_settled)] += 1
                for place, worth in enumerate(right):
                    if high_settled:
                        self.assertGreaterEqual(high[place], scale * worth)
                    if low_settled:
                        self.assertLessEqual(low[place], scale * worth)
        self.assertTrue(all(many > 20 for many in seen.values()), seen)

    def test_settled_uppers_are_the_least_and_settled_lowers_the_greatest(self):
        found = 0
        tries = list(range(0, 13)) + [40, MOST]
        for at, games in enumerate(ones()[::7]):
            edge = EDGES[at % 2]
            names = players(games)
            anchor = names[at % len(names)]
            scale = 1 + at % 4
            high, high_settled = uppers(games, anchor, scale, 12, edge)
            low, low_settled = lowers(games, anchor, scale, 12, edge)
            for some in product(tries, repeat=len(names) - 1):
                rest = list(some)
                numbers = [scale if name == anchor else rest.pop(0) for name in names]
                if high_settled and 0 not in numbers and is_settled(games, anchor, numbers, edge, True):
                    found += 1
                    self.assertTrue(all(one <= other for one, other in zip(high, numbers)), (games, numbers))
                if low_settled and is_settled(games, anchor, numbers, edge, False):
                    found += 1
                    self.assertTrue(all(one >= other for one, other in zip(low, numbers)), (games, numbers))
            self.assertIs(is_settled(games, anchor, high, edge, True), high_settled)
            self.assertIs(is_settled(games, anchor, low, edge, False), low_settled)
        self.assertGreater(found, 500)


class OneGameMore(unittest.TestCase):
    def test_won_from_the_anchor_and_by_it(self):
        changed = 0
        for at, games in enumerate(ones()[::3]):
            edge = EDGES[at % len(EDGES)]
            names = players(games)
            anchor = names[at % len(names)]
            for name, asked, rounds, side in product(names, (uppers, lowers), (1, 2, 12), (1, 0, -1)):
                if name == anchor:
                    continue
                before = asked(games, anchor, 50, rounds, edge)[0]
                won = asked(games + [(99, name, anchor, 2, side)], anchor, 50, rounds, edge)[0]
                lost = asked(games + [(99, name, anchor, 0, side)], anchor, 50, rounds, edge)[0]
                self.assertTrue(all(late >= early for late, early in zip(won, before)), (games, name))
                self.assertTrue(all(late <= early for late, early in zip(lost, before)), (games, name))
                changed += (won != before) + (lost != before)
        self.assertGreater(changed, 500)


class Ends(unittest.TestCase):
    def test_some_by_hand(self):
        self.assertEqual(ends(EVEN, "ann", 10, 1), [((1, 1), (1, 1)), ((1, 1), (1, 1))])
        self.assertEqual(ends(THREE_TO_ONE, "ann", 10, 1), [((1, 1), (1, 1)), ((3, 10), (2, 5))])
        self.assertEqual(ends(THREE_TO_ONE, "bob", 10, 1), [((3, 1), (3, 1)), ((1, 1), (1, 1))])
        self.assertEqual(ends(THREE_TO_ONE, "ann", 1, 1), [((1, 1), (1, 1)), ((0, 1), (1, 1))])
        self.assertEqual(ends(RING, "ann", 100, 12), [((1, 1), (1, 1))] * 3)

    def test_where_a_row_is_not_settled(self):
        self.assertEqual(ends(RING, "ann", 100, 1), [((0, 1), None)] * 3)
        self.assertEqual(ends(RING, "ann", 100, 0), [((0, 1), None)] * 3)
        self.assertEqual(ends(STEEP, "cid", 1000, 12), [((100, 1), None), ((10, 1), None), ((1, 1), None)])
        self.assertEqual(ends(EVEN, "ann", 1, 0), [((0, 1), (1, 1)), ((0, 1), (1, 1))])

    def test_no_edge_told(self):
        games = read_book("1 ann* drew bob")
        self.assertEqual(ends(games, "ann", 10, 1)[1], ((1, 1), (1, 1)))
        self.assertEqual(ends(games, "ann", 10, 1, None)[1], ((1, 1), (1, 1)))
        self.assertEqual(ends(games, "ann", 10, 1, (3, 2))[1], ((3, 2), (3, 2)))

    def test_by_the_rows(self):
        for at, games in enumerate(ones()[::4]):
            anchor = players(games)[at % len(players(games))]
            edge = EDGES[at % len(EDGES)]
            for scale, rounds in product((1, 12, 1000), (0, 1, 12)):
                high, high_settled = uppers(games, anchor, scale, rounds, edge)
                low, low_settled = lowers(games, anchor, scale, rounds, edge)
                self.assertEqual(ends(games, anchor, scale, rounds, edge), [
                    (fraction(one, scale) if low_settled else (0, 1), fraction(other, scale) if high_settled else None)
                    for one, other in zip(low, high)])

    def test_they_are_a_list_of_stretches(self):
        for rounds in (0, 1, 12):
            told = ends(THREE_TO_ONE, "ann", 7, rounds)
            self.assertIs(type(told), list)
            for one in told:
                self.assertIs(type(one), tuple)
                self.assertEqual(stretch(one[0], one[1]), one)


class Refused(unittest.TestCase):
    def no_fit(self, games, anchor):
        for asked in (uppers, lowers, ends):
            for rounds in (0, 1, 12):
                with self.subTest(asked=asked, games=games, anchor=anchor), self.assertRaises(NoFit) as caught:
                    asked(games, anchor, 10, rounds)
                self.assertEqual(caught.exception.verdict, verdict(games))

    def test_no_fit_with_the_verdict(self):
        for text in ("", "1 ann beat bob", "1 ann drew bob; 2 cid drew dan", "1 ann drew bob; 2 cid beat dan",
                     "1 ann drew bob; 2 bob beat cid"):
            self.no_fit(read_book(text), "ann")

    def test_the_verdicts_by_hand(self):
        for text, found in [("", ("loose", [])), ("1 bob beat ann", ("none", ["bob"])),
                            ("1 ann drew bob; 2 cid drew dan", ("loose", [["ann", "bob"], ["cid", "dan"]]))]:
            with self.assertRaises(NoFit) as caught:
                ends(read_book(text), "ann", 10, 3)
            self.assertEqual(caught.exception.verdict, found)

    def test_no_fit_goes_ahead_of_no_player(self):
        for text in ("", "1 ann beat bob", "1 ann drew bob; 2 cid drew dan"):
            for anchor in ("zoe", "", None):
                self.no_fit(read_book(text), anchor)

    def test_no_player(self):
        for asked, anchor in product((uppers, lowers, ends), ["zoe", "an", "Ann", "ann*", "", None, 0, ["ann"], {}]):
            for rounds in (0, 1):
                with self.subTest(asked=asked, anchor=anchor), self.assertRaises(NoPlayer):
                    asked(RING, anchor, 10, rounds)

    def test_each_book_whose_verdict_is_not_one(self):
        for games in three()[::5]:
            if verdict(games)[0] == "one":
                ends(games, players(games)[0], 1, 1)
            else:
                self.no_fit(games, "ann")


if __name__ == "__main__":
    unittest.main()
