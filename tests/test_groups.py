import unittest
from copy import deepcopy
from fractions import Fraction
from itertools import permutations, product

from ladderworth.errors import NoPlayer, NoTree
from ladderworth.groups import group_shares
from ladderworth.ratios import fraction, plus, under
from ladderworth.trees import tree_shares
from tests.reference import group_foretold, pair

FOUR = ["ann", "bob", "cid", "dan"]
WORTHS = {"ann": 5, "bob": 1, "cid": 999, "dan": 12, "eve": 5, "fay": 300}
NO_NAMES = [None, True, 0, 1, 0.5, "", "Ann", "a b", " ann", "ann ", "ann1", "a_b", "abcdefghi", "(ann bob)", b"ann",
            [],
            ["ann"], {}, {"ann": 1}, {"ann"}, (), ("ann",), ("ann", "bob")]


def small_worths(many):
    for worths in product((1, 2, 5, 999), repeat=many):
        yield dict(zip(FOUR, worths))


def orders(names):
    return [list(order) for order in permutations(names)]


class Shares(unittest.TestCase):
    def test_a_name_alone(self):
        for worth in (1, 7, 999):
            self.assertEqual(group_shares(["ann"], {"ann": worth}), [("ann", (1, 1))])
        self.assertEqual(group_shares(["a"], {"a": 1}), [("a", (1, 1))])
        self.assertEqual(group_shares(["abcdefgh"], {"abcdefgh": 1}), [("abcdefgh", (1, 1))])

    def test_by_hand(self):
        # Of three: two wins come to 1/12, 4/15 and 9/20; 1/5 is left where each won once, a third of it for each.
        worths = {"ann": 1, "bob": 2, "cid": 3}
        self.assertEqual(group_shares(["ann", "bob", "cid"], worths),
                         [("ann", (3, 20)), ("bob", (1, 3)), ("cid", (31, 60))])
        self.assertEqual(group_shares(["ann", "cid"], worths), [("ann", (1, 4)), ("cid", (3, 4))])

    def test_four_by_hand(self):
        # Dan beats all three in 8/27 of the ways, two of them in 12/27; with one win or none it is behind somebody.
        # The others, alike, have one win each in 1/4 of their ways, else 2, 1 and 0. Where dan has two wins, who beat
        # it has then 2 in the first case (dan has 1/2), else 3, 2 or 1, each as likely (dan has 0, 1/3 or 1/2).
        in_row = Fraction(1, 3) * (0 + Fraction(1, 3) + Fraction(1, 2))
        whole = Fraction(8, 27) + Fraction(12, 27) * (Fraction(1, 4) * Fraction(1, 2) + Fraction(3, 4) * in_row)
        others = pair((1 - whole) / 3)
        self.assertEqual(group_shares(FOUR, {"ann": 1, "bob": 1, "cid": 1, "dan": 2}),
                         [("ann", others), ("bob", others), ("cid", others), ("dan", pair(whole))])

    def test_all_worths_alike(self):
        for many in range(1, 5):
            for worth in (1, 7, 999):
                names = FOUR[:many]
                self.assertEqual(group_shares(names, {name: worth for name in names}),
                                 [(name, (1, many)) for name in names])

    def test_by_the_words(self):
        for many in range(1, 5):
            for worths in small_worths(many):
                with self.subTest(worths):
                    self.assertEqual(group_shares(FOUR[:many], worths), group_foretold(FOUR[:many], worths))

    def test_of_two_as_of_the_tree_of_both(self):
        for one, other in product((1, 2, 3, 50, 998, 999), repeat=2):
            worths = {"ann": one, "bob": other}
            self.assertEqual(group_shares(["ann", "bob"], worths), tree_shares(("ann", "bob"), worths))
            self.assertEqual(group_shares(["bob", "ann"], worths), tree_shares(("ann", "bob"), worths))

    def test_the_names_in_another_order(self):
        for many in range(1, 5):
            for worths in list(small_worths(many))[::7]:
                told = group_shares(FOUR[:many], worths)
                self.assertEqual([name for name, share in told], FOUR[:many])
                for names in orders(FOUR[:many]):
                    self.assertEqual(group_shares(names, worths), told)

    def test_sorted_by_names_of_unlike_length(self):
        names = ["b", "aa", "ab", "a"]
        self.assertEqual([name for name, share in group_shares(names, {name: 3 for name in names})],
                         ["a", "aa", "ab", "b"])

    def test_all_worths_taken_a_number_of_times(self):
        for many in range(1, 5):
            for worths in product((1, 2, 5), repeat=many):
                told = group_shares(FOUR[:many], dict(zip(FOUR, worths)))
                for often in (2, 3, 199):
                    self.assertEqual(group_shares(FOUR[:many],
                                                  {name: often * worth for name, worth in zip(FOUR, worths)}), told)

    def test_they_come_to_one(self):
        for many in range(1, 5):
            for worths in small_worths(many):
                whole = (0, 1)
                for name, share in group_shares(FOUR[:many], worths):
                    whole = plus(whole, share)
                self.assertEqual(whole, (1, 1))

    def test_other_names_of_the_worths_do_not_matter(self):
        self.assertEqual(group_shares(["cid", "ann"], WORTHS), group_shares(["cid", "ann"], {"ann": 5, "cid": 999}))

    def test_kinds(self):
        for many in range(1, 5):
            shares = group_shares(FOUR[:many], WORTHS)
            self.assertIs(type(shares), list)
            for row in shares:
                self.assertIs(type(row), tuple)
                self.assertIs(type(row[1]), tuple)
                self.assertEqual(row[1], fraction(*row[1]))

    def test_what_is_handed_in_stays(self):
        for names in orders(FOUR):
            handed = list(names)
            worths = deepcopy(WORTHS)
            told = group_shares(handed, worths)
            self.assertEqual((handed, worths), (names, WORTHS))
            kept = list(told)
            handed.clear()
            worths.clear()
            self.assertEqual(told, kept)
            told.clear()
            self.assertEqual(group_shares(names, WORTHS), kept)


class Refused(unittest.TestCase):
    def refused(self, names):
        """It goes first, whether or not the names have worths."""
        kept = deepcopy(names)
        for worths in ({}, {"ann": 5}, WORTHS):
            with self.subTest(names=names, worths=worths), self.assertRaises(NoTree):
                group_shares(names, worths)
        self.assertEqual(names, kept)

    def test_none(self):
        self.refused([])

    def test_five(self):
        self.refused(["ann", "bob", "cid", "dan", "eve"])
        self.refused(["v", "w", "x", "y", "z", "a"])
        self.refused(["ann"] * 5)
        self.refused(["ann", "bob", "cid", "dan", None])

    def test_a_name_twice(self):
        self.refused(["ann", "ann"])
        for names in orders(["ann", "bob", "ann"]) + orders(["ann", "bob", "cid", "bob"]) + [["zoe", "zoe"],
                                                                                             FOUR[:3] + ["ann"]]:
            self.refused(names)

    def test_what_is_no_name(self):
        for thing in NO_NAMES:
            self.refused([thing])
            self.refused([thing, "ann"])
            self.refused(["ann", "bob", "cid", thing])
            self.refused([thing, thing])
            self.refused(["zoe", thing])

    def test_what_is_no_list(self):
        for thing in ((), ("ann",), ("ann", "bob"), "ann", "a", {"ann": 5}):
            self.refused(thing)

    def test_a_name_without_a_worth(self):
        for names, worths in [
                (["ann"], {}), (["zoe"], WORTHS), (["ann", "zoe"], WORTHS), (["zoe", "ann"], WORTHS),
                (["ann", "bob"], {}),
                (["ann", "bob", "cid"], {"ann": 1, "cid": 1}), (FOUR, {"ann": 1, "bob": 1, "cid": 1}),
                (FOUR, {"bob": 1, "cid": 1, "dan": 1}), (["ann", "bob"], {"a": 1, "annn": 1, "bob": 1})]:
            with self.subTest(names=names, worths=worths), self.assertRaises(NoPlayer):
                group_shares(names, worths)


class Raised(unittest.TestCase):
    def test_one_worth_raised_alone(self):
        for many in range(2, 5):
            for worths in list(small_worths(many))[::3]:
                before = dict(group_shares(FOUR[:many], worths))
                for name in before:
                    for worth in (worths[name] + 1, 2 * worths[name], 999):
                        if worths[name] < worth <= 999:
                            after = dict(group_shares(FOUR[:many], {**worths, name: worth}))
                            self.assertTrue(under(before[name], after[name]))

    def test_alone_it_stays(self):
        for worth in range(1, 1000, 99):
            self.assertEqual(group_shares(["ann"], {"ann": worth}), [("ann", (1, 1))])

    def test_step_by_step(self):
        for name in FOUR:
            told = [Fraction(*dict(group_shares(FOUR, {**WORTHS, name: worth}))[name]) for worth in range(1, 1000, 37)]
            self.assertEqual(told, sorted(told))

    def test_who_is_worth_more_has_no_less_a_share(self):
        for many in range(2, 5):
            for worths in small_worths(many):
                shares = dict(group_shares(FOUR[:many], worths))
                for one, other in product(shares, repeat=2):
                    if worths[one] > worths[other]:
                        self.assertTrue(under(shares[other], shares[one]))
                    elif worths[one] == worths[other]:
                        self.assertEqual(shares[one], shares[other])


if __name__ == "__main__":
    unittest.main()
