import unittest
from copy import deepcopy
from itertools import permutations, product

from ladderworth.ranks import best_case, places, ranking, worst_case
from ladderworth.ratios import fraction, under
from ladderworth.stretches import lies_in, stretch
from tests.reference import places_at, ranked

ZERO = (0, 1)
HALF = (1, 2)
ONE = (1, 1)
TWO = (2, 1)
ENDS = [ZERO, HALF, ONE, TWO]
ALL = [(low, high) for low in ENDS for high in ENDS + [None] if high is None or not under(high, low)]
# Worths at the ends, between them and behind them.
GRID = [ZERO, (1, 4), HALF, (3, 4), ONE, (3, 2), TWO, (9, 1)]
EIGHT = [(ONE, TWO), (ZERO, HALF), (ZERO, None), ((3, 2), (5, 2)), ((3, 1), (3, 1)), (HALF, ONE), ((4, 1), None),
         ((1, 3), (1, 3))]


def lists_of_stretches():
    """Every list of one or two, many of three, some of four, and the one of eight in several orders."""
    found = [[part] for part in ALL]
    found += [list(parts) for parts in product(ALL, repeat=2)]
    found += [list(parts) for parts in list(product(ALL, repeat=3))[::5]]
    found += [list(parts) for parts in list(product(ALL, repeat=4))[::239]]
    return found + [EIGHT[at:] + EIGHT[:at] for at in range(8)] + [EIGHT[::-1]]


class Places(unittest.TestCase):
    def test_one(self):
        for worth in (ZERO, HALF, (10 ** 6, 1), (1, 10 ** 6)):
            self.assertEqual(places([worth]), [(1, 1)])

    def test_by_hand(self):
        for worths, told in [
                ([ONE, TWO], [(2, 2), (1, 1)]), ([TWO, ONE], [(1, 1), (2, 2)]), ([ONE, ONE], [(1, 2), (1, 2)]),
                ([HALF, (3, 1), HALF, (1, 3)], [(2, 3), (1, 1), (2, 3), (4, 4)]),
                ([ZERO, ZERO, (1, 9)], [(2, 3), (2, 3), (1, 1)]), ([ZERO, ZERO], [(1, 2), (1, 2)]),
                ([(2, 3), (3, 4), (5, 7)], [(3, 3), (1, 1), (2, 2)]), ([(9, 1), (10, 1)], [(2, 2), (1, 1)])]:
            with self.subTest(worths):
                self.assertEqual(places(worths), told)

    def test_eight(self):
        worths = [(5, 1), (1, 5), (5, 1), (7, 2), ZERO, (5, 1), (1, 5), (10 ** 60, 3)]
        self.assertEqual(places(worths), [(2, 4), (6, 7), (2, 4), (5, 5), (8, 8), (2, 4), (6, 7), (1, 1)])
        self.assertEqual(places([(at, 1) for at in range(8)]), [(8 - at, 8 - at) for at in range(8)])

    def test_all_alike(self):
        for many in range(1, 9):
            for worth in (ZERO, HALF, (7, 1)):
                self.assertEqual(places([worth] * many), [(1, many)] * many)

    def test_apart_by_a_little(self):
        self.assertEqual(places([(10 ** 50, 10 ** 50 + 1), ONE]), [(2, 2), (1, 1)])
        self.assertEqual(places([(10 ** 50 + 1, 10 ** 50), ONE]), [(1, 1), (2, 2)])

    def test_by_the_words(self):
        for many in range(1, 5):
            for worths in product([ZERO, (1, 3), HALF, ONE], repeat=many):
                self.assertEqual(places(list(worths)), places_at(worths))
        for worths in permutations([ZERO, ZERO, HALF, (2, 3), (2, 3), (2, 3), (7, 1)], 6):
            self.assertEqual(places(list(worths)), places_at(worths))

    def test_kinds(self):
        told = places([ONE, TWO])
        self.assertIs(type(told), list)
        for row in told:
            self.assertIs(type(row), tuple)


class Ranking(unittest.TestCase):
    def test_one(self):
        for part in ALL:
            self.assertEqual(ranking([part]), [(1, 1, [])])

    def test_by_hand(self):
        for stretches, told in [
                ([(ZERO, HALF), (ONE, TWO)], [(2, 2, [1]), (1, 1, [0])]),
                ([(ONE, TWO), (ZERO, HALF)], [(1, 1, [1]), (2, 2, [0])]),
                ([(ZERO, HALF), (ONE, None), (ZERO, None)], [(2, 3, [1]), (1, 2, [0]), (1, 3, [])]),
                ([(ONE, ONE), (TWO, TWO), (ZERO, ZERO)], [(2, 2, [1, 2]), (1, 1, [0, 2]), (3, 3, [0, 1])])]:
            with self.subTest(stretches):
                self.assertEqual(ranking(stretches), told)

    def test_eight(self):
        self.assertEqual(ranking(EIGHT), [
            (3, 6, [1, 4, 6, 7]), (5, 8, [0, 3, 4, 6]), (1, 8, []), (3, 5, [1, 4, 5, 6, 7]), (2, 3, [0, 1, 3, 5, 6, 7]),
            (4, 7, [3, 4, 6, 7]), (1, 2, [0, 1, 3, 4, 5, 7]), (6, 8, [0, 3, 4, 5, 6])])

    def test_that_touch_at_an_end(self):
        self.assertEqual(ranking([(ZERO, ONE), (ONE, TWO)]), [(1, 2, []), (1, 2, [])])
        self.assertEqual(ranking([(ONE, ONE), (ONE, None)]), [(1, 2, []), (1, 2, [])])
        self.assertEqual(ranking([(ONE, ONE), (ONE, ONE)]), [(1, 2, []), (1, 2, [])])

    def test_apart_by_a_little(self):
        self.assertEqual(ranking([(ZERO, ONE), ((10 ** 50 + 1, 10 ** 50), TWO)]), [(2, 2, [1]), (1, 1, [0])])
        self.assertEqual(ranking([(ZERO, (10 ** 50, 10 ** 50 + 1)), (ONE, None)]), [(2, 2, [1]), (1, 1, [0])])

    def test_without_a_high(self):
        self.assertEqual(ranking([(ZERO, None), (TWO, None)]), [(1, 2, []), (1, 2, [])])
        self.assertEqual(ranking([(TWO, None), (ZERO, ONE)]), [(1, 1, [1]), (2, 2, [0])])
        self.assertEqual(ranking([(ZERO, None)] * 8), [(1, 8, [])] * 8)

    def test_all_alike(self):
        for many in range(1, 9):
            for part in ((ZERO, ZERO), (ONE, ONE), (HALF, TWO), (ONE, None)):
                self.assertEqual(ranking([part] * many), [(1, many, [])] * many)

    def test_by_the_words(self):
        for stretches in lists_of_stretches():
            with self.subTest(stretches):
                self.assertEqual(ranking(stretches), ranked(stretches))

    def test_apart_rises_and_goes_both_ways(self):
        for stretches in lists_of_stretches():
            told = ranking(stretches)
            for at, (best, worst, apart) in enumerate(told):
                self.assertEqual(apart, sorted(set(apart)))
                self.assertNotIn(at, apart)
                for other in apart:
                    self.assertIn(at, told[other][2])

    def test_best_is_no_greater_than_worst(self):
        for stretches in lists_of_stretches():
            for best, worst, apart in ranking(stretches):
                self.assertTrue(1 <= best <= worst <= len(stretches))
                self.assertEqual(len(apart), best - 1 + len(stretches) - worst)

    def test_kinds(self):
        told = ranking(EIGHT)
        self.assertIs(type(told), list)
        for row in told:
            self.assertIs(type(row), tuple)
            self.assertIs(type(row[2]), list)

    def test_its_lists_are_the_askers_own(self):
        for stretches in ([(ONE, ONE)] * 3, EIGHT):
            told = ranking(stretches)
            kept = deepcopy(told)
            for at in range(len(told)):
                told[at][2].append(99)
                for other in range(at + 1, len(told)):
                    self.assertEqual(told[other], kept[other])
            told.clear()
            self.assertEqual(ranking(stretches), kept)


class Cases(unittest.TestCase):
    def test_by_hand(self):
        stretches = [(HALF, ONE), (ZERO, (3, 1)), ((1, 3), TWO)]
        for at, best, worst in [
                (0, [ONE, ZERO, (1, 3)], [HALF, (3, 1), TWO]), (1, [HALF, (3, 1), (1, 3)], [ONE, ZERO, TWO]),
                (2, [HALF, ZERO, TWO], [ONE, (3, 1), (1, 3)])]:
            with self.subTest(at):
                self.assertEqual(best_case(stretches, at), best)
                self.assertEqual(worst_case(stretches, at), worst)

    def test_one(self):
        self.assertEqual(best_case([(HALF, TWO)], 0), [TWO])
        self.assertEqual(worst_case([(HALF, TWO)], 0), [HALF])
        self.assertEqual(best_case([(HALF, None)], 0), [(3, 2)])
        self.assertEqual(worst_case([(HALF, None)], 0), [HALF])
        self.assertEqual(best_case([(ZERO, None)], 0), [ONE])

    def test_without_a_high(self):
        # The greatest is a high of another, a low of another, its own low.
        for stretches, at, best in [
                ([(HALF, None), (ZERO, TWO)], 0, [(3, 1), ZERO]), ([(HALF, None), (TWO, None)], 0, [(3, 1), TWO]),
                ([(TWO, None), (ZERO, ONE)], 0, [(3, 1), ZERO]), ([(ZERO, ONE), ((5, 3), None)], 1, [ZERO, (8, 3)]),
                ([(ZERO, None), (ZERO, None)], 1, [ZERO, ONE])]:
            with self.subTest(stretches=stretches, at=at):
                self.assertEqual(best_case(stretches, at), best)

    def test_of_others_without_a_high(self):
        for stretches, at, worst in [
                ([(HALF, ONE), (ZERO, None)], 0, [HALF, TWO]), ([(HALF, ONE), (TWO, None)], 0, [HALF, (3, 1)]),
                ([(HALF, None), (ZERO, None)], 0, [HALF, (3, 2)]),
                ([(HALF, TWO), (ZERO, None), (ONE, None), (ONE, ONE)], 3, [TWO, (3, 1), (3, 1), ONE]),
                ([(ZERO, None), (ZERO, None)], 1, [ONE, ZERO])]:
            with self.subTest(stretches=stretches, at=at):
                self.assertEqual(worst_case(stretches, at), worst)

    def test_others_without_a_high_do_not_matter_in_the_best_case(self):
        self.assertEqual(best_case([(HALF, ONE), (TWO, None)], 0), [ONE, TWO])
        self.assertEqual(worst_case([(HALF, None), (ONE, TWO)], 0), [HALF, TWO])

    def test_eight(self):
        for at in range(8):
            best = [part[0] for part in EIGHT]
            worst = [part[1] if part[1] is not None else (5, 1) for part in EIGHT]
            own = (best[at], worst[at])
            best[at] = own[1]
            worst[at] = own[0]
            self.assertEqual(best_case(EIGHT, at), best)
            self.assertEqual(worst_case(EIGHT, at), worst)

    def test_they_lie_in_the_stretches(self):
        for stretches in lists_of_stretches():
            for at in range(len(stretches)):
                for worths in (best_case(stretches, at), worst_case(stretches, at)):
                    self.assertEqual(len(worths), len(stretches))
                    self.assertTrue(all(lies_in(worth, part) for worth, part in zip(worths, stretches)))
                    self.assertEqual(worths, [fraction(*worth) for worth in worths])

    def test_first_and_last_places_in_them(self):
        for stretches in lists_of_stretches():
            for at, (best, worst, apart) in enumerate(ranking(stretches)):
                self.assertEqual(places(best_case(stretches, at))[at][0], best)
                self.assertEqual(places(worst_case(stretches, at))[at][1], worst)

    def test_at_no_worths_the_places_go_beyond(self):
        tried = 0
        for stretches in lists_of_stretches()[::4]:
            if len(stretches) > 3:
                continue
            told = ranking(stretches)
            for worths in product(*[[worth for worth in GRID if lies_in(worth, part)] for part in stretches]):
                for (first, last), (best, worst, apart) in zip(places(list(worths)), told):
                    tried += 1
                    self.assertTrue(best <= first <= last <= worst)
        self.assertGreater(tried, 10000)

    def test_who_is_apart_is_so_at_all_worths(self):
        for stretches in lists_of_stretches()[::9]:
            if len(stretches) > 3:
                continue
            for worths in product(*[[worth for worth in GRID if lies_in(worth, part)] for part in stretches]):
                for at, (best, worst, apart) in enumerate(ranking(stretches)):
                    for other in apart:
                        self.assertNotEqual(worths[at], worths[other])

    def test_they_are_lists_of_their_own(self):
        stretches = [stretch(HALF, None), stretch(ONE, TWO)]
        for asked in (best_case, worst_case):
            told = asked(stretches, 0)
            self.assertIs(type(told), list)
            kept = list(told)
            told.clear()
            self.assertEqual(asked(stretches, 0), kept)
        self.assertEqual(stretches, [(HALF, None), (ONE, TWO)])


if __name__ == "__main__":
    unittest.main()
