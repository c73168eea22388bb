import unittest
from fractions import Fraction
from itertools import product

from ladderworth.books import players, read_book
from ladderworth.errors import NoWorth
from ladderworth.games import turned
from ladderworth.ratios import fraction, plus
from ladderworth.sums import fits, share, sums, weight
from tests.reference import (edge_of, fitted, four, names_of, pair, share_of, sum_of, three, value, weight_of)

GREAT = 10 ** 6
WORTHS = [(1, 1), (1, 2), (2, 1), (3, 7), (GREAT, 1), (1, GREAT), (GREAT - 1, GREAT), (999983, 999979)]
EDGES = [None, (1, 1), (3, 2), (2, 3), (9, 1), (1, 9), (8, 9)]
ROWS = [[(1, 1)] * 4, [(1, 1), (2, 1), (3, 1), (4, 1)], [(5, 7), (1, 3), (GREAT, 999999), (1, GREAT)],
        [(1, 9), (9, 1), (1, 1), (7, 2)]]
FRACTIONS_NOT_ABOVE = [(0, 1), (-1, 1), (-1, 2), (-GREAT, 1)]


def rows_for(games):
    return [row[:len(players(games))] for row in ROWS]


class Share(unittest.TestCase):
    def test_some_by_hand(self):
        for worth, other, side, edge, found in [
                ((1, 1), (1, 1), 0, None, (1, 2)), ((2, 1), (1, 1), 0, None, (2, 3)), ((1, 1), (2, 1), 0, None, (1, 3)),
                ((1, 2), (1, 3), 0, None, (3, 5)), ((2, 1), (1, 1), 1, None, (2, 3)), ((2, 1), (1, 1), -1, None, (2, 3)),
                ((2, 1), (1, 1), 0, (3, 2), (2, 3)), ((2, 1), (1, 1), 1, (3, 2), (3, 4)), ((2, 1), (1, 1), -1, (3, 2), (4, 7)),
                ((1, 1), (1, 1), 1, (1, 9), (1, 10)), ((1, 1), (1, 1), -1, (1, 9), (9, 10)),
                ((3, 1), (1, 1), 1, (1, 1), (3, 4)), ((3, 1), (1, 1), -1, (1, 1), (3, 4))]:
            with self.subTest(worth=worth, other=other, side=side, edge=edge):
                self.assertEqual(share(worth, other, side, edge), found)
                self.assertIs(type(share(worth, other, side, edge)), tuple)

    def test_each_side_and_edge(self):
        for worth, other, side, edge in product(WORTHS, WORTHS, (1, 0, -1), EDGES):
            self.assertEqual(share(worth, other, side, edge),
                             pair(share_of(value(worth), value(other), side, edge_of(edge))))

    def test_both_shares_in_a_game_come_to_one(self):
        for worth, other, side, edge in product(WORTHS, WORTHS, (1, 0, -1), EDGES):
            self.assertEqual(plus(share(worth, other, side, edge), share(other, worth, -side, edge)), (1, 1))

    def test_no_edge_is_an_edge_of_one(self):
        for worth, other, side in product(WORTHS, WORTHS, (1, 0, -1)):
            self.assertEqual(share(worth, other, side, None), share(worth, other, side, (1, 1)))
            self.assertEqual(share(worth, other, side, None), share(worth, other, 0, (9, 2)))


class Sums(unittest.TestCase):
    def test_some_by_hand(self):
        for text, worths, edge, found in [
                ("1 ann beat bob", [(1, 1), (1, 1)], None, [(-1, 2), (1, 2)]),
                ("1 ann lost bob", [(1, 1), (1, 1)], None, [(1, 2), (-1, 2)]),
                ("1 ann drew bob", [(1, 1), (1, 1)], None, [(0, 1), (0, 1)]),
                ("1 ann drew bob", [(3, 1), (1, 1)], None, [(1, 4), (-1, 4)]),
                ("1 bob beat ann", [(3, 1), (1, 1)], None, [(3, 4), (-3, 4)]),
                ("1 ann* beat bob", [(1, 1), (1, 1)], (3, 1), [(-1, 4), (1, 4)]),
                ("1 ann beat bob*", [(1, 1), (1, 1)], (3, 1), [(-3, 4), (3, 4)]),
                ("1 bob* lost ann", [(1, 1), (1, 1)], (3, 1), [(-3, 4), (3, 4)]),
                ("1 ann beat bob; 1 ann beat bob; 2 bob drew cid", [(1, 1), (1, 1), (3, 1)], None,
                 [(-1, 1), (3, 4), (1, 4)])]:
            with self.subTest(text=text, worths=worths, edge=edge):
                self.assertEqual(sums(read_book(text), worths, edge), found)

    def test_without_games(self):
        for edge in EDGES:
            self.assertEqual(sums([], [], edge), [])
            self.assertIs(fits([], [], edge), True)

    def test_they_are_a_list_of_fractions(self):
        told = sums(read_book("1 ann drew bob; 2 bob beat cid"), [(2, 3), (1, 1), (5, 1)], (3, 2))
        self.assertIs(type(told), list)
        for one in told:
            self.assertEqual(fraction(one[0], one[1]), one)
            self.assertIs(type(one), tuple)

    def test_no_edge_told(self):
        games = read_book("1 ann* beat bob; 2 bob* drew cid")
        worths = [(2, 3), (1, 1), (5, 1)]
        self.assertEqual(sums(games, worths), sums(games, worths, None))
        self.assertEqual(sums(games, worths), sums(games, worths, (1, 1)))
        self.assertNotEqual(sums(games, worths), sums(games, worths, (2, 1)))

    def test_small_books(self):
        for at, games in enumerate(three() + four()[::11]):
            edge = EDGES[at % len(EDGES)]
            for worths in rows_for(games):
                named = {name: value(worth) for name, worth in zip(names_of(games), worths)}
                self.assertEqual(sums(games, worths, edge), [pair(sum_of(games, named, name, edge)) for name in named])

    def test_all_together_are_nothing(self):
        for at, games in enumerate(three() + four()[::11]):
            for worths in rows_for(games):
                whole = (0, 1)
                for one in sums(games, worths, EDGES[at % len(EDGES)]):
                    whole = plus(whole, one)
                self.assertEqual(whole, (0, 1))

    def test_all_worths_times_one_fraction_have_the_same_sums(self):
        for at, games in enumerate(three()[::3]):
            edge = EDGES[at % len(EDGES)]
            for worths, much in product(rows_for(games), [Fraction(2), Fraction(1, 3), Fraction(7, 5)]):
                grown = [pair(value(worth) * much) for worth in worths]
                self.assertEqual(sums(games, grown, edge), sums(games, worths, edge))

    def test_one_worth_raised_alone(self):
        for at, games in enumerate(three()[::3]):
            edge = EDGES[at % len(EDGES)]
            for worths, raised in product(rows_for(games), range(len(players(games)))):
                grown = list(worths)
                grown[raised] = pair(value(worths[raised]) * Fraction(8, 5))
                before = sums(games, worths, edge)
                behind = sums(games, grown, edge)
                for place in range(len(worths)):
                    if place == raised:
                        self.assertGreaterEqual(value(behind[place]), value(before[place]))
                    else:
                        self.assertLessEqual(value(behind[place]), value(before[place]))

    def test_games_turned_about_and_their_order_do_not_matter(self):
        for at, games in enumerate(three()[::5]):
            edge = EDGES[at % len(EDGES)]
            for worths in rows_for(games):
                self.assertEqual(sums([turned(played) for played in games[::-1]], worths, edge), sums(games, worths, edge))
                self.assertEqual(weight([turned(played) for played in games[::-1]], worths, edge),
                                 weight(games, worths, edge))

    def test_forty_games_of_eight_at_great_worths(self):
        names = ["ann", "bob", "cid", "dan", "eve", "fay", "gus", "hal"]
        games = [(at, names[at % 8], names[(at * 3 + 1) % 8 if (at * 3 + 1) % 8 != at % 8 else (at + 1) % 8], at % 3, at % 2)
                 for at in range(40)]
        worths = [(GREAT - at * 17, 999983 - at * 31) for at in range(8)]
        worths = [fraction(one[0], one[1]) for one in worths]
        named = {name: value(worth) for name, worth in zip(names, worths)}
        self.assertEqual(sums(games, worths, (9, 8)), [pair(sum_of(games, named, name, (9, 8))) for name in names])
        self.assertEqual(weight(games, worths, (9, 8)), pair(weight_of(games, list(named.values()), (9, 8))))


class Fits(unittest.TestCase):
    def test_worths_that_fit(self):
        for games, worths, edge in fitted():
            with self.subTest(games):
                self.assertIs(fits(games, worths, edge), True)
                for much in (Fraction(3), Fraction(5, 7)):
                    self.assertIs(fits(games, [pair(value(worth) * much) for worth in worths], edge), True)

    def test_some_that_do_not(self):
        for games, worths, edge in fitted():
            for at in range(len(worths)):
                for much in (Fraction(2), Fraction(GREAT - 1, GREAT)):
                    other = list(worths)
                    other[at] = pair(value(worths[at]) * much)
                    with self.subTest(games=games, other=other):
                        self.assertIs(fits(games, other, edge), False)

    def test_one_sum_of_nothing_is_not_enough(self):
        games = read_book("1 ann drew bob; 2 cid beat dan; 3 cid drew dan")
        self.assertEqual(sums(games, [(1, 1)] * 4)[:2], [(0, 1), (0, 1)])
        self.assertIs(fits(games, [(1, 1)] * 4), False)
        self.assertIs(fits(games, [(1, 1), (1, 1), (3, 1), (1, 1)]), True)

    def test_the_edge_matters(self):
        games = read_book("1 ann* beat bob; 2 ann* beat bob; 3 ann* beat bob; 4 ann* lost bob")
        self.assertIs(fits(games, [(2, 1), (1, 1)], (3, 2)), True)
        self.assertIs(fits(games, [(2, 1), (1, 1)]), False)
        self.assertIs(fits(games, [(3, 1), (1, 1)]), True)


class Weight(unittest.TestCase):
    def test_some_by_hand(self):
        for text, worths, edge, found in [
                ("", [], None, (1, 1)),
                ("1 ann beat bob", [(2, 1), (1, 1)], None, (4, 9)),
                ("1 ann lost bob", [(2, 1), (1, 1)], None, (1, 9)),
                ("1 bob beat ann", [(2, 1), (1, 1)], None, (1, 9)),
                ("1 ann drew bob", [(2, 1), (1, 1)], None, (2, 9)),
                ("1 bob drew ann", [(2, 1), (1, 1)], None, (2, 9)),
                ("1 ann* beat bob", [(2, 1), (1, 1)], (3, 2), (9, 16)),
                ("1 ann beat bob*", [(2, 1), (1, 1)], (3, 2), (16, 49)),
                ("1 ann* drew bob", [(2, 1), (1, 1)], (3, 2), (3, 16)),
                ("1 ann beat bob; 1 ann beat bob", [(2, 1), (1, 1)], None, (16, 81)),
                ("1 ann beat bob; 2 bob beat cid; 3 cid drew ann", [(2, 1), (1, 1), (1, 1)], None, (2, 81))]:
            with self.subTest(text=text, worths=worths, edge=edge):
                self.assertEqual(weight(read_book(text), worths, edge), found)
                self.assertIs(type(weight(read_book(text), worths, edge)), tuple)

    def test_no_edge_told(self):
        games = read_book("1 ann* beat bob")
        self.assertEqual(weight(games, [(2, 1), (1, 1)]), (4, 9))
        self.assertEqual(weight(games, [(2, 1), (1, 1)], (1, 1)), (4, 9))

    def test_small_books(self):
        for at, games in enumerate(three() + four()[::11]):
            edge = EDGES[at % len(EDGES)]
            for worths in rows_for(games):
                self.assertEqual(weight(games, worths, edge),
                                 pair(weight_of(games, [value(worth) for worth in worths], edge)))

    def test_where_worths_fit_none_have_a_greater_weight(self):
        for games, worths, edge in fitted():
            most = value(weight(games, worths, edge))
            near = [pair(value(worth) * much) for worth in worths for much in (Fraction(99, 100), Fraction(101, 100))]
            for at, other in enumerate(near):
                changed = list(worths)
                changed[at // 2] = other
                self.assertLess(value(weight(games, changed, edge)), most)
            for many in product((1, 2, 3, 5), repeat=len(worths)):
                self.assertLessEqual(value(weight(games, [(one, 1) for one in many], edge)), most)


class Refused(unittest.TestCase):
    def refused(self, games, worths, edge=None):
        for asked in (sums, fits, weight):
            with self.subTest(asked=asked, worths=worths, edge=edge), self.assertRaises(NoWorth):
                asked(games, worths, edge)

    def test_another_number_than_the_players(self):
        games = read_book("1 ann drew bob; 2 bob drew cid")
        for many in (0, 1, 2, 4, 8, 100):
            self.refused(games, [(1, 1)] * many)
        for many in (1, 2, 8):
            self.refused([], [(1, 1)] * many)

    def test_one_not_above_nothing(self):
        games = read_book("1 ann drew bob; 2 bob drew cid")
        for at, wrong in product(range(3), FRACTIONS_NOT_ABOVE):
            worths = [(1, 1), (1, 1), (1, 1)]
            worths[at] = wrong
            self.refused(games, worths)
        self.refused(games, [(-1, 1), (-1, 1), (-1, 1)])
        self.refused(games, [(0, 1), (0, 1), (0, 1)])

    def test_an_edge_not_above_nothing(self):
        for wrong in FRACTIONS_NOT_ABOVE:
            for text in ("1 ann* drew bob", "1 ann drew bob"):
                self.refused(read_book(text), [(1, 1), (1, 1)], wrong)
            self.refused([], [], wrong)

    def test_without_an_edge_told(self):
        for asked in (sums, fits, weight):
            with self.subTest(asked=asked), self.assertRaises(NoWorth):
                asked(read_book("1 ann drew bob"), [(1, 1)])

    def test_the_least_above_nothing_is_taken(self):
        games = read_book("1 ann* drew bob")
        for asked in (sums, fits, weight):
            asked(games, [(1, GREAT), (1, GREAT)], (1, 9))
        self.assertEqual(sums(games, [(1, GREAT), (1, GREAT)], (1, 9)), [(-2, 5), (2, 5)])


if __name__ == "__main__":
    unittest.main()
