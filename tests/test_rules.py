import unittest
from copy import deepcopy
from fractions import Fraction

from ladderworth.errors import NoTable
from ladderworth.ratios import fraction, minus, plus
from ladderworth.rules import Capped, Early, Rested, Rule, share_by, table_of
from tests.reference import FLAT, PLAIN, STEEP, pair, told_share

HALF = (0, (1, 2))
CLASSES = {"Rule": (Rule, ()), "Early": (Early, (40, 3)), "Rested": (Rested, (5, 2)), "Capped": (Capped, (10,))}


def rows(many):
    return [HALF] + [(at, (1, 2)) for at in range(1, many)]


def made(name, step=32, first=1500, table=tuple(PLAIN)):
    rule, more = CLASSES[name]
    return rule(step, first, list(table), *more)


class Tables(unittest.TestCase):
    RIGHT = [
        FLAT, PLAIN, STEEP, rows(2), rows(9), rows(10),
        [HALF, (1, (1, 2))], [HALF, (1, (1, 1))], [HALF, (10 ** 6, (1, 1))], [HALF, (999999, (2, 3)), (10 ** 6, (2, 3))],
        [HALF, (7, (5000, 9999))], [HALF, (7, (9998, 9999))], [HALF, (7, (9997, 9998)), (8, (9998, 9999)), (9, (1, 1))],
    ]
    NO_LISTS = [None, True, False, 0, 1, 0.5, "", "table", b"", (), (HALF,), tuple(PLAIN), HALF, {}, {0: (1, 2)},
                dict(PLAIN), {HALF}, range(1), iter([HALF]), object(), list, NoTable]
    FIRST_ROWS = [(1, (1, 2)), (-1, (1, 2)), (0, (1, 1)), (0, (0, 1)), (0, (3, 5)), (0, (1, 3)), (0, (2, 4)), (0, (1, -2)),
                  (0, (-1, -2)), (60, (3, 5)), (0, (2, 1)), (0, (1, 0)), (0, (0, 0))]
    NO_ROWS = [None, True, False, 0, 60, 0.5, "", "ab", b"ab", [], [60, (3, 5)], {}, {60: (3, 5)}, {60, (3, 5)}, (), (60,),
               ((3, 5),), (60, (3, 5), 0), (60, (3, 5), (3, 5)), (60, 3, 5), ((3, 5), 60), (60, 60), object()]
    NO_FROMS = [None, True, False, 60.0, "60", "", b"60", (60,), [60], (60, 1), {}, object()]
    NO_SHARES = [None, True, False, 1, 0.5, "3/5", "35", b"35", [3, 5], {3, 5}, {3: 5}, (), (3,), (3, 5, 1), (3.0, 5),
                 (3, 5.0), ("3", "5"), ("3", 5), (3, "5"), (None, 5), (3, None), ((3,), 5), (3, (5,)), (True, 1),
                 (1, True), (True, True), ([3], 5), (3, [5]), Fraction(3, 5), object()]

    def refused(self, thing):
        with self.subTest(thing), self.assertRaises(NoTable):
            table_of(thing)

    def test_right_ones(self):
        for table in self.RIGHT:
            with self.subTest(table):
                self.assertEqual(table_of(table), table)

    def test_one_to_ten_rows(self):
        for many in range(1, 11):
            self.assertEqual(table_of(rows(many)), rows(many))
        self.refused([])
        for many in (11, 12, 13, 100):
            self.refused(rows(many))

    def test_what_is_no_list(self):
        for thing in self.NO_LISTS:
            self.refused(thing)

    def test_another_first_row(self):
        for row in self.FIRST_ROWS:
            self.refused([row])
            self.refused([row] + PLAIN[1:])
            self.refused([row] + PLAIN)

    def test_a_first_row_that_equals_it_but_is_of_other_kinds(self):
        for row in [(False, (1, 2)), (0.0, (1, 2)), (0, (True, 2)), (0, (1.0, 2)), (0, (1, 2.0)), (0, Fraction(1, 2)), (0, 0.5),
                    [0, (1, 2)], (0, [1, 2])]:
            self.refused([row])
            self.refused([row] + PLAIN[1:])

    def test_numbers_that_do_not_rise(self):
        for starts in [(0,), (5, 5), (5, 4), (1, 2, 2), (1, 3, 2), (9, 1, 10), (10 ** 6, 10 ** 6), (10 ** 6, 1), (1, 0)]:
            self.refused([HALF] + [(start, (3, 5)) for start in starts])

    def test_numbers_out_of_bounds(self):
        for start in (-1, -60, -10 ** 6, 10 ** 6 + 1, 10 ** 6 + 2, 10 ** 9, 10 ** 50):
            self.refused([HALF, (start, (3, 5))])
            self.refused([HALF, (60, (3, 5)), (start, (3, 5))])

    def test_shares_that_fall(self):
        for shares in [[(1, 3)], [(0, 1)], [(4999, 9999)], [(3, 5), (1, 2)], [(3, 5), (4, 5), (3, 5)], [(1, 1), (9998, 9999)],
                       [(2, 3), (3, 5)], [(9998, 9999), (9997, 9998)]]:
            self.refused([HALF] + [(at, share) for at, share in enumerate(shares, start=1)])

    def test_shares_above_one(self):
        for share in [(2, 1), (3, 2), (9999, 9998), (9999, 1), (6, 5)]:
            self.refused([HALF, (60, share)])
            self.refused([HALF, (60, (1, 1)), (61, share)])

    def test_shares_not_in_lowest_terms(self):
        for share in [(2, 4), (6, 10), (2, 2), (9999, 9999), (9, 12), (3333, 6666), (9990, 9999)]:
            self.refused([HALF, (60, share)])

    def test_shares_below_zero_or_over_what_is_not_above_zero(self):
        for share in [(-1, 2), (-3, 5), (3, -5), (-3, -5), (-1, 1), (-1, -1), (1, 0), (0, 0), (-1, 0), (0, -1)]:
            self.refused([HALF, (60, share)])

    def test_shares_of_five_figures(self):
        for share in [(9999, 10000), (10000, 10001), (5001, 10000), (10007, 10009), (99999, 100000), (10 ** 30, 10 ** 30 + 1)]:
            self.refused([HALF, (60, share)])

    def test_rows_of_other_kinds(self):
        for row in self.NO_ROWS:
            self.refused([row])
            self.refused([HALF, row])
            self.refused([row, HALF])
            self.refused([HALF, row, (70, (4, 5))])

    def test_parts_of_other_kinds(self):
        for start in self.NO_FROMS:
            self.refused([HALF, (start, (3, 5))])
        for share in self.NO_SHARES:
            self.refused([HALF, (60, share)])
        self.refused([HALF, (True, (3, 5)), (2, (3, 5))])

    def test_it_is_a_new_list(self):
        for table in self.RIGHT:
            handed = deepcopy(table)
            told = table_of(handed)
            self.assertIs(type(told), list)
            self.assertIsNot(told, handed)
            told.append("more")
            self.assertEqual(handed, table)
            handed.clear()
            self.assertEqual(told, table + ["more"])


class Shares(unittest.TestCase):
    def test_some_by_hand(self):
        for difference, share in [
                ((0, 1), (1, 2)), ((59, 1), (1, 2)), ((119, 2), (1, 2)), ((60, 1), (3, 5)), ((121, 2), (3, 5)), ((159, 1), (3, 5)),
                ((160, 1), (7, 10)), ((279, 1), (7, 10)), ((280, 1), (4, 5)), ((460, 1), (9, 10)), ((10 ** 9, 1), (9, 10)),
                ((-1, 1), (1, 2)), ((-59, 1), (1, 2)), ((-60, 1), (2, 5)), ((-160, 1), (3, 10)), ((-279, 1), (3, 10)),
                ((-280, 1), (1, 5)), ((-459, 1), (1, 5)), ((-460, 1), (1, 10)), ((-10 ** 9, 1), (1, 10))]:
            with self.subTest(difference):
                self.assertEqual(share_by(PLAIN, difference), share)

    def test_by_one_row_all_are_even(self):
        for difference in [(0, 1), (1, 10 ** 9), (-1, 10 ** 9), (10 ** 6, 1), (-10 ** 6, 1)]:
            self.assertEqual(share_by(FLAT, difference), (1, 2))

    def test_a_share_of_one_leaves_none(self):
        table = [HALF, (1, (1, 1))]
        self.assertEqual(share_by(table, (1, 1)), (1, 1))
        self.assertEqual(share_by(table, (-1, 1)), (0, 1))
        self.assertEqual(share_by(table, (999, 1000)), (1, 2))
        self.assertEqual(share_by(table, (-999, 1000)), (1, 2))

    def test_around_each_row(self):
        little = (1, 10 ** 40)
        for table in (FLAT, PLAIN, STEEP):
            for at, (start, share) in enumerate(table):
                for difference in [(start, 1), plus((start, 1), little), minus((start, 1), little), (start + 1, 1), (start - 1, 1)]:
                    expected = told_share(table, Fraction(*difference))
                    with self.subTest(table=table, difference=difference):
                        self.assertEqual(share_by(table, difference), pair(expected))
                if start > 0:
                    self.assertEqual(share_by(table, (start, 1)), share)
                    self.assertEqual(share_by(table, plus((start, 1), little)), share)
                    self.assertEqual(share_by(table, minus((start, 1), little)), table[at - 1][1])

    def test_both_shares_come_to_one(self):
        for table in (FLAT, PLAIN, STEEP):
            for top in list(range(0, 500, 7)) + [10 ** 6 - 1, 10 ** 6, 10 ** 6 + 1]:
                for bottom in (1, 2, 7):
                    there = share_by(table, fraction(top, bottom))
                    back = share_by(table, fraction(-top, bottom))
                    self.assertEqual(plus(there, back), (1, 1))

    def test_it_never_falls(self):
        for table in (FLAT, PLAIN, STEEP):
            shares = [Fraction(*share_by(table, fraction(top, 3))) for top in range(-1500, 1500)]
            self.assertEqual(shares, sorted(shares))

    def test_it_is_a_fraction(self):
        for table in (FLAT, PLAIN, STEEP):
            for difference in [(0, 1), (61, 1), (-61, 1), (281, 2), (-10 ** 7, 3)]:
                share = share_by(table, difference)
                self.assertIs(type(share), tuple)
                self.assertEqual(share, fraction(*share))


class Rules(unittest.TestCase):
    def test_each_stands_under_rule_alone(self):
        for rule in (Early, Rested, Capped):
            self.assertTrue(issubclass(rule, Rule))
            for other in (Early, Rested, Capped):
                self.assertEqual(issubclass(rule, other), rule is other)
        self.assertFalse(issubclass(Rule, (Early, Rested, Capped)))

    def test_each_has_its_first_worth(self):
        for name in CLASSES:
            for first in (0, 1, 1500, 10 ** 6):
                self.assertEqual(made(name, first=first).first, first)
        one = made("Rule", first=1)
        made("Rule", first=2)
        self.assertEqual(one.first, 1)

    def test_the_size_is_the_step(self):
        for step in (0, 1, 32, 10 ** 6):
            for rule in (Rule(step, 0, PLAIN), Capped(step, 0, PLAIN, 1)):
                for played in (0, 1, 39):
                    for rest in (0, 1, 9999):
                        self.assertEqual(rule.size(played, rest), step)

    def test_bits_by_hand(self):
        rule = made("Rule")
        for difference, halves, bit in [
                ((0, 1), 2, (16, 1)), ((0, 1), 1, (0, 1)), ((0, 1), 0, (-16, 1)),
                ((60, 1), 2, (64, 5)), ((60, 1), 1, (-16, 5)), ((60, 1), 0, (-96, 5)),
                ((-60, 1), 2, (96, 5)), ((-60, 1), 1, (16, 5)), ((-60, 1), 0, (-64, 5)),
                ((119, 2), 2, (16, 1)), ((460, 1), 0, (-144, 5)), ((460, 1), 2, (16, 5)), ((-460, 1), 2, (144, 5))]:
            with self.subTest(difference=difference, halves=halves):
                self.assertEqual(rule.bit(difference, halves, 0, 0), bit)
                self.assertEqual(rule.bit(difference, halves, 39, 9999), bit)

    def test_bits_of_each_kind(self):
        differences = [(0, 1), (59, 1), (60, 1), (-60, 1), (321, 2), (-321, 2), (10 ** 7, 1), (-10 ** 7, 1)]
        for name in CLASSES:
            for table in (FLAT, PLAIN, STEEP):
                rule = made(name, step=31, table=table)
                for difference in differences:
                    for halves in (0, 1, 2):
                        for played, rest in [(0, 0), (2, 5), (3, 6), (40, 9999)]:
                            bit = rule.size(played, rest) * (
                                Fraction(halves, 2) - told_share(table, Fraction(*difference)))
                            if name == "Capped":
                                bit = max(Fraction(-10), min(Fraction(10), bit))
                            self.assertEqual(rule.bit(difference, halves, played, rest), pair(bit))

    def test_told_about_it_is_the_same_with_the_other_sign(self):
        for name in CLASSES:
            rule = made(name)
            for top in range(-500, 501, 20):
                for halves in (0, 1, 2):
                    there = rule.bit((top, 1), halves, 3, 6)
                    back = rule.bit((-top, 1), 2 - halves, 3, 6)
                    self.assertEqual(plus(there, back), (0, 1))

    def test_a_step_of_zero(self):
        for name in ("Rule", "Rested", "Capped"):
            rule = made(name, step=0)
            self.assertEqual(rule.size(9, 9), 0)
            for halves in (0, 1, 2):
                self.assertEqual(rule.bit((61, 1), halves, 9, 9), (0, 1))

    def test_the_greatest_step(self):
        self.assertEqual(Rule(10 ** 6, 0, FLAT).bit((0, 1), 2, 0, 0), (500000, 1))
        self.assertEqual(Rested(10 ** 6, 0, FLAT, 0, 10 ** 6).bit((0, 1), 2, 0, 1), (5 * 10 ** 11, 1))

    def test_what_is_no_table_is_refused(self):
        for table in ([], None, tuple(PLAIN), [(0, (1, 3))], rows(11)):
            for name in CLASSES:
                rule, more = CLASSES[name]
                with self.subTest(name=name, table=table), self.assertRaises(NoTable):
                    rule(32, 1500, table, *more)

    def test_a_table_changed_later_changes_no_rule(self):
        for name in CLASSES:
            rule, more = CLASSES[name]
            for change in (list.clear, list.pop, list.reverse, lambda table: table.insert(0, (0, (1, 1))),
                           lambda table: table.__setitem__(1, (10, (1, 1)))):
                table = list(PLAIN)
                one = rule(32, 1500, table, *more)
                asked = [one.bit((top, 1), 2, 0, 0) for top in range(-500, 501, 20)]
                change(table)
                self.assertEqual([one.bit((top, 1), 2, 0, 0) for top in range(-500, 501, 20)], asked)

    def test_two_rules_of_one_table(self):
        table = list(PLAIN)
        one = Rule(32, 1500, table)
        table[0:] = list(FLAT)
        other = Rule(10, 0, table)
        self.assertEqual(one.bit((60, 1), 2, 0, 0), (64, 5))
        self.assertEqual(other.bit((60, 1), 2, 0, 0), (5, 1))
        self.assertEqual((one.first, other.first), (1500, 0))

    def test_the_table_handed_in_stays(self):
        table = list(PLAIN)
        made("Rule", table=table).bit((60, 1), 2, 0, 0)
        self.assertEqual(table, PLAIN)


class Kinds(unittest.TestCase):
    def test_early_below_at_and_above_many(self):
        rule = Early(32, 1500, PLAIN, 40, 5)
        for played, size in [(0, 40), (1, 40), (4, 40), (5, 32), (6, 32), (39, 32)]:
            for rest in (0, 9999):
                self.assertEqual(rule.size(played, rest), size)
        self.assertEqual(rule.bit((0, 1), 2, 4, 0), (20, 1))
        self.assertEqual(rule.bit((0, 1), 2, 5, 0), (16, 1))

    def test_early_at_the_ends_of_many(self):
        for played in (0, 1, 40):
            self.assertEqual(Early(32, 0, PLAIN, 40, 0).size(played, 0), 32)
            self.assertEqual(Early(32, 0, PLAIN, 40, 10 ** 6).size(played, 0), 40)
        self.assertEqual(Early(32, 0, PLAIN, 40, 1).size(0, 0), 40)
        self.assertEqual(Early(32, 0, PLAIN, 40, 1).size(1, 0), 32)

    def test_early_of_zero(self):
        rule = Early(32, 0, PLAIN, 0, 1)
        self.assertEqual(rule.bit((0, 1), 2, 0, 0), (0, 1))
        self.assertEqual(rule.bit((0, 1), 2, 1, 0), (16, 1))
        self.assertEqual(Early(0, 0, PLAIN, 8, 1).bit((0, 1), 2, 0, 0), (4, 1))
        self.assertEqual(Early(0, 0, PLAIN, 8, 1).bit((0, 1), 2, 1, 0), (0, 1))

    def test_rested_below_at_and_above_pause(self):
        rule = Rested(32, 1500, PLAIN, 7, 3)
        for rest, size in [(0, 32), (6, 32), (7, 32), (8, 96), (9999, 96)]:
            for played in (0, 1, 39):
                self.assertEqual(rule.size(played, rest), size)
        self.assertEqual(rule.bit((0, 1), 2, 1, 7), (16, 1))
        self.assertEqual(rule.bit((0, 1), 2, 1, 8), (48, 1))

    def test_rested_at_the_ends_of_pause_and_times(self):
        self.assertEqual([Rested(32, 0, PLAIN, 0, 3).size(1, rest) for rest in (0, 1, 2)], [32, 96, 96])
        self.assertEqual([Rested(32, 0, PLAIN, 7, 0).size(1, rest) for rest in (7, 8)], [32, 0])
        self.assertEqual([Rested(32, 0, PLAIN, 7, 1).size(1, rest) for rest in (7, 8)], [32, 32])
        self.assertEqual(Rested(32, 0, PLAIN, 10 ** 6, 3).size(1, 9999), 32)
        self.assertEqual(Rested(10 ** 6, 0, PLAIN, 7, 10 ** 6).size(1, 8), 10 ** 12)
        self.assertEqual(Rested(32, 0, PLAIN, 7, 0).bit((60, 1), 2, 1, 8), (0, 1))

    def test_capped_both_ways(self):
        rule = Capped(32, 1500, PLAIN, 13)
        for difference, halves, bit in [
                ((0, 1), 2, (13, 1)), ((0, 1), 1, (0, 1)), ((0, 1), 0, (-13, 1)),
                ((60, 1), 2, (64, 5)), ((60, 1), 1, (-16, 5)), ((60, 1), 0, (-13, 1)),
                ((-60, 1), 2, (13, 1)), ((-60, 1), 1, (16, 5)), ((-60, 1), 0, (-64, 5))]:
            with self.subTest(difference=difference, halves=halves):
                self.assertEqual(rule.bit(difference, halves, 0, 0), bit)

    def test_capped_just_at_below_and_above_the_bit(self):
        for cap, bit in [(15, (15, 1)), (16, (16, 1)), (17, (16, 1))]:
            self.assertEqual(Capped(32, 0, PLAIN, cap).bit((0, 1), 2, 0, 0), bit)
            self.assertEqual(Capped(32, 0, PLAIN, cap).bit((0, 1), 0, 0, 0), (-bit[0], 1))

    def test_a_cap_of_zero_and_the_greatest(self):
        for halves in (0, 1, 2):
            self.assertEqual(Capped(32, 0, PLAIN, 0).bit((60, 1), halves, 0, 0), (0, 1))
            self.assertEqual(Capped(32, 0, PLAIN, 10 ** 6).bit((60, 1), halves, 0, 0),
                             Rule(32, 0, PLAIN).bit((60, 1), halves, 0, 0))

    def test_bits_are_fractions(self):
        for name in CLASSES:
            for halves in (0, 1, 2):
                for difference in [(0, 1), (61, 1), (-700, 3)]:
                    bit = made(name).bit(difference, halves, 3, 6)
                    self.assertIs(type(bit), tuple)
                    self.assertEqual(bit, fraction(*bit))


if __name__ == "__main__":
    unittest.main()
