import unittest
from fractions import Fraction
from itertools import product

from ladderworth.errors import NoNumber
from ladderworth.ratios import fraction, is_whole, minus, over, plus, times, under

SIXTY = 10 ** 60 - 1
NO_WHOLES = [True, False, None, "", "1", "-1", [], [1], (), (1,), (1, 2), {}, {1: 2}, 1.0, 0.5, 1j, b"1", int, object()]
WHOLES = [0, 1, -1, 2, -7, 10 ** 6, SIXTY, -SIXTY]
TOPS = [0, 1, -1, 2, -6, 7, 12, 360, SIXTY, -SIXTY, 10 ** 59]
BOTTOMS = [1, -1, 2, 3, -4, 9, 360, -SIXTY, SIXTY, 10 ** 59]
FRACTIONS = [(0, 1), (1, 1), (-1, 1), (1, 2), (-1, 2), (2, 3), (-3, 4), (5, 6), (7, 6), (12, 5), (SIXTY, 10 ** 59),
             (-(10 ** 59), SIXTY), (SIXTY, 1), (1, SIXTY)]


def told(one):
    return (one.numerator, one.denominator)


class Whole(unittest.TestCase):
    def test_ints_are(self):
        for thing in WHOLES:
            with self.subTest(thing):
                self.assertIs(is_whole(thing), True)

    def test_truths_and_all_else_are_not(self):
        for thing in NO_WHOLES:
            with self.subTest(thing):
                self.assertIs(is_whole(thing), False)


class Made(unittest.TestCase):
    def same(self, one, top, bottom):
        self.assertEqual(one, told(Fraction(top, bottom)))
        self.assertIs(type(one), tuple)
        self.assertTrue(all(type(number) is int for number in one))

    def test_some_by_hand(self):
        for top, bottom, made in [(6, 4, (3, 2)), (-6, 4, (-3, 2)), (6, -4, (-3, 2)), (-6, -4, (3, 2)), (0, 5, (0, 1)),
                                  (0, -5, (0, 1)), (5, 5, (1, 1)), (5, -5, (-1, 1)), (7, 1, (7, 1)), (1, 7, (1, 7))]:
            with self.subTest(top=top, bottom=bottom):
                self.assertEqual(fraction(top, bottom), made)

    def test_all_small_ones(self):
        for top, bottom in product(range(-30, 31), range(-30, 31)):
            if bottom != 0:
                self.same(fraction(top, bottom), top, bottom)

    def test_great_ones(self):
        for top, bottom in product(TOPS, BOTTOMS):
            with self.subTest(top=top, bottom=bottom):
                self.same(fraction(top, bottom), top, bottom)

    def test_a_fraction_stays_what_it_is(self):
        for one in FRACTIONS:
            self.assertEqual(fraction(one[0], one[1]), one)


class Refused(unittest.TestCase):
    def test_a_bottom_of_nothing(self):
        for top in WHOLES:
            with self.subTest(top), self.assertRaises(NoNumber):
                fraction(top, 0)

    def test_no_whole_number_in_either_place(self):
        for thing in NO_WHOLES:
            for whole in WHOLES:
                with self.subTest(top=thing, bottom=whole), self.assertRaises(NoNumber):
                    fraction(thing, whole)
                with self.subTest(top=whole, bottom=thing), self.assertRaises(NoNumber):
                    fraction(whole, thing)

    def test_no_whole_number_in_both_places(self):
        for top, bottom in product(NO_WHOLES, NO_WHOLES):
            with self.subTest(top=top, bottom=bottom), self.assertRaises(NoNumber):
                fraction(top, bottom)

    def test_over_nothing(self):
        for one in FRACTIONS:
            with self.subTest(one), self.assertRaises(NoNumber):
                over(one, (0, 1))

    def test_what_is_handed_in_is_not_changed(self):
        thing = [1, 2]
        with self.assertRaises(NoNumber):
            fraction(thing, {3: 4})
        self.assertEqual(thing, [1, 2])

    def test_behind_a_refusal_what_is_right_is_made(self):
        for wrong in [(1, 0), (True, 2), ("1", None)]:
            with self.assertRaises(NoNumber):
                fraction(wrong[0], wrong[1])
            self.assertEqual(fraction(4, -6), (-2, 3))
        with self.assertRaises(NoNumber):
            over((1, 2), (0, 1))
        self.assertEqual(over((1, 2), (-3, 4)), (-2, 3))


class Reckoned(unittest.TestCase):
    def test_some_by_hand(self):
        self.assertEqual(plus((1, 6), (1, 3)), (1, 2))
        self.assertEqual(plus((1, 2), (-1, 2)), (0, 1))
        self.assertEqual(minus((1, 6), (2, 3)), (-1, 2))
        self.assertEqual(times((-2, 3), (3, 4)), (-1, 2))
        self.assertEqual(times((0, 1), (3, 4)), (0, 1))
        self.assertEqual(over((1, 2), (-3, 4)), (-2, 3))
        self.assertEqual(over((0, 1), (-3, 4)), (0, 1))

    def test_each_two(self):
        for one, other in product(FRACTIONS, FRACTIONS):
            first = Fraction(one[0], one[1])
            second = Fraction(other[0], other[1])
            with self.subTest(one=one, other=other):
                self.assertEqual(plus(one, other), told(first + second))
                self.assertEqual(minus(one, other), told(first - second))
                self.assertEqual(times(one, other), told(first * second))
                self.assertIs(under(one, other), first < second)
                if second != 0:
                    self.assertEqual(over(one, other), told(first / second))

    def test_all_told_are_tuples(self):
        for asked in (plus, minus, times, over):
            self.assertIs(type(asked((1, 2), (1, 3))), tuple)

    def test_what_is_told_may_be_handed_on_with_as_many_figures_as_it_has(self):
        one = (SIXTY, 10 ** 59)
        grown = (1, 1)
        for turn in range(100):
            grown = times(grown, one)
        self.assertEqual(grown, told(Fraction(SIXTY, 10 ** 59) ** 100))
        for turn in range(100):
            grown = over(grown, one)
        self.assertEqual(grown, (1, 1))

    def test_numbers_that_floats_cannot_tell_apart(self):
        low = (10 ** 59, 10 ** 59 + 1)
        high = (10 ** 59 + 1, 10 ** 59 + 2)
        self.assertIs(under(low, high), True)
        self.assertIs(under(high, low), False)
        self.assertIs(under(low, low), False)


if __name__ == "__main__":
    unittest.main()
