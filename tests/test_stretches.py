import unittest
from fractions import Fraction
from itertools import product

from ladderworth.errors import NoStretch
from ladderworth.ratios import fraction, minus, plus
from ladderworth.stretches import beneath, lies_in, meets, stretch, widened

SIXTY = 10 ** 60 - 1
BIT = (1, SIXTY)
POINTS = [fraction(top, bottom) for top, bottom in
          [(-3, 1), (-7, 3), (-1, 2), (0, 1), (1, 3), (1, 2), (2, 3), (1, 1), (7, 3), (SIXTY, 1)]]
STRETCHES = [stretch(low, high) for at, low in enumerate(POINTS) for high in POINTS[at:] + [None]]
MEASURES = [1, 2, 3, 6, 7, 1000, 10 ** 59, SIXTY]


def value(one):
    return Fraction(one[0], one[1])


def shared(one, other):
    # Two stretches share a fraction just where they share one of their lows.
    return any(value(low) >= value(part[0]) and (part[1] is None or value(low) <= value(part[1]))
               for low, part in ((one[0], other), (other[0], one)))


class Made(unittest.TestCase):
    def test_low_and_high(self):
        self.assertEqual(stretch((1, 2), (2, 3)), ((1, 2), (2, 3)))
        self.assertEqual(stretch((-2, 3), (-1, 2)), ((-2, 3), (-1, 2)))
        self.assertIs(type(stretch((1, 2), (2, 3))), tuple)

    def test_alike(self):
        for point in POINTS:
            self.assertEqual(stretch(point, point), (point, point))

    def test_without_end(self):
        for point in POINTS:
            self.assertEqual(stretch(point, None), (point, None))

    def test_high_less_than_low(self):
        for at, low in enumerate(POINTS):
            for high in POINTS[:at] + [minus(low, BIT)]:
                with self.subTest(low=low, high=high), self.assertRaises(NoStretch):
                    stretch(low, high)
            self.assertEqual(stretch(low, plus(low, BIT)), (low, plus(low, BIT)))

    def test_behind_a_refusal_what_is_right_is_made(self):
        with self.assertRaises(NoStretch):
            stretch((1, 2), (1, 3))
        self.assertEqual(stretch((1, 3), (1, 2)), ((1, 3), (1, 2)))


class LiesIn(unittest.TestCase):
    def test_at_the_ends_and_just_beside_them(self):
        for part in STRETCHES:
            low, high = part
            with self.subTest(part):
                self.assertIs(lies_in(low, part), True)
                self.assertIs(lies_in(minus(low, BIT), part), False)
                self.assertIs(lies_in(plus(low, BIT), part), high != low)
                if high is not None:
                    self.assertIs(lies_in(high, part), True)
                    self.assertIs(lies_in(plus(high, BIT), part), False)
                    self.assertIs(lies_in(minus(high, BIT), part), high != low)

    def test_far_off(self):
        self.assertIs(lies_in((SIXTY, 1), ((0, 1), None)), True)
        self.assertIs(lies_in((-SIXTY, 1), ((0, 1), None)), False)
        self.assertIs(lies_in((SIXTY, 1), ((0, 1), (1, 1))), False)
        self.assertIs(lies_in((-SIXTY, 1), ((0, 1), (1, 1))), False)


class MeetsAndBeneath(unittest.TestCase):
    def test_one_end_shared_alone(self):
        low = stretch((0, 1), (1, 2))
        for high in (stretch((1, 2), (1, 1)), stretch((1, 2), None), stretch((1, 2), (1, 2))):
            self.assertIs(meets(low, high), True)
            self.assertIs(meets(high, low), True)
            self.assertIs(beneath(low, high), False)
            self.assertIs(beneath(high, low), False)

    def test_apart_by_a_bit(self):
        low = stretch((0, 1), (1, 2))
        for high in (stretch(plus((1, 2), BIT), (1, 1)), stretch(plus((1, 2), BIT), None)):
            self.assertIs(meets(low, high), False)
            self.assertIs(meets(high, low), False)
            self.assertIs(beneath(low, high), True)
            self.assertIs(beneath(high, low), False)

    def test_without_end(self):
        one = stretch((0, 1), None)
        other = stretch((SIXTY, 1), None)
        self.assertIs(meets(one, other), True)
        self.assertIs(meets(other, one), True)
        self.assertIs(beneath(one, other), False)
        self.assertIs(beneath(other, one), False)

    def test_each_with_itself(self):
        for part in STRETCHES:
            with self.subTest(part):
                self.assertIs(meets(part, part), True)
                self.assertIs(beneath(part, part), False)

    def test_each_two(self):
        for one, other in product(STRETCHES, STRETCHES):
            self.assertIs(meets(one, other), shared(one, other), (one, other))
            apart = one[1] is not None and value(one[1]) < value(other[0])
            self.assertIs(beneath(one, other), apart, (one, other))


class Widened(unittest.TestCase):
    def test_some_by_hand(self):
        for part, measure, wide in [
                (((1, 3), (2, 3)), 1, ((0, 1), (1, 1))),
                (((1, 3), (2, 3)), 2, ((0, 1), (1, 1))),
                (((1, 3), (2, 3)), 4, ((1, 4), (3, 4))),
                (((1, 3), (1, 3)), 10, ((3, 10), (2, 5))),
                (((-1, 3), (-1, 3)), 10, ((-2, 5), (-3, 10))),
                (((-7, 3), (-1, 2)), 1, ((-3, 1), (0, 1))),
                (((-1, 3), (1, 3)), 1, ((-1, 1), (1, 1))),
                (((7, 3), None), 2, ((2, 1), None)),
                (((-7, 3), None), 2, ((-5, 2), None))]:
            with self.subTest(part=part, measure=measure):
                self.assertEqual(widened(part, measure), wide)

    def test_ends_over_the_measure_stay(self):
        for part, measure in [(((1, 3), (2, 3)), 3), (((1, 3), (2, 3)), 6), (((-2, 1), (5, 1)), 1), (((-1, 2), None), 2),
                              (((0, 1), (0, 1)), 7), (((-1, SIXTY), (1, SIXTY)), SIXTY)]:
            with self.subTest(part=part, measure=measure):
                self.assertEqual(widened(part, measure), part)

    def test_it_is_the_narrowest_that_has_all_of_it(self):
        for part, measure in product(STRETCHES, MEASURES):
            with self.subTest(part=part, measure=measure):
                wide = widened(part, measure)
                low = value(wide[0])
                self.assertEqual((low * measure).denominator, 1)
                self.assertTrue(low <= value(part[0]) < low + Fraction(1, measure))
                if part[1] is None:
                    self.assertIsNone(wide[1])
                    continue
                high = value(wide[1])
                self.assertEqual((high * measure).denominator, 1)
                self.assertTrue(high - Fraction(1, measure) < value(part[1]) <= high)

    def test_it_is_a_stretch_of_fractions(self):
        for part, measure in product(STRETCHES, MEASURES):
            wide = widened(part, measure)
            self.assertIs(type(wide), tuple)
            for end in wide:
                if end is not None:
                    self.assertEqual(fraction(end[0], end[1]), end)

    def test_once_more_by_the_same_measure_it_stays(self):
        for part, measure in product(STRETCHES, MEASURES):
            wide = widened(part, measure)
            self.assertEqual(widened(wide, measure), wide)


if __name__ == "__main__":
    unittest.main()
