import unittest
from fractions import Fraction
from itertools import permutations, product

from ladderworth.errors import NoPlayer, NoTree
from ladderworth.ratios import fraction, plus, under
from ladderworth.trees import leaves, tree_shares
from tests.reference import foretold, shapes

NINE = ["ann", "bob", "cid", "dan", "eve", "fay", "gus", "hal", "ida"]
EIGHT = NINE[:8]
WORTHS = {"ann": 5, "bob": 1, "cid": 999, "dan": 12, "eve": 5, "fay": 300, "gus": 2, "hal": 77}
NO_TREES = [
    None, True, False, 0, 1, 0.5, "", "Ann", "ANN", "a b", " ann", "ann ", "ann1", "a_b", "abcdefghi", "ann,bob", "(ann bob)",
    b"ann", [], ["ann"], ["ann", "bob"], {}, {"ann": "bob"}, {"ann", "bob"}, (), ("ann",), ("ann", "bob", "cid"),
    (("ann", "bob"),), ((), ()), ("ann", ()), ((), "ann"), object(), range(2),
]
# Things that stand beside a name in a tuple, and make it none.
NO_PARTS = NO_TREES + ["ann"]


def deep(thing, many):
    """The thing within as many tuples of two, on the left or on the right in turn."""
    for at in range(many):
        thing = (thing, NINE[at + 1]) if at % 2 else (NINE[at + 1], thing)
    return thing


def chain(names):
    tree = names[0]
    for name in names[1:]:
        tree = (tree, name)
    return tree


def some_trees():
    trees = ["ann"]
    for many in range(2, 6):
        trees += shapes(EIGHT[:many])
    trees += shapes(list(reversed(EIGHT)))[::40] + shapes(EIGHT[3:] + EIGHT[:3])[::50] + shapes(EIGHT[1:7])[::6] + shapes(EIGHT[1:])[::20]
    return trees


class Leaves(unittest.TestCase):
    def test_by_hand(self):
        for tree, names in [
                ("ann", ["ann"]), ("a", ["a"]), ("abcdefgh", ["abcdefgh"]), (("bob", "ann"), ["bob", "ann"]),
                ((("bob", "ann"), "cid"), ["bob", "ann", "cid"]), (("cid", ("bob", "ann")), ["cid", "bob", "ann"]),
                ((("dan", "ann"), ("cid", "bob")), ["dan", "ann", "cid", "bob"]),
                (("z", (("y", "x"), "w")), ["z", "y", "x", "w"])]:
            with self.subTest(tree):
                self.assertEqual(leaves(tree), names)

    def test_from_left_to_right(self):
        for many in range(1, 9):
            for names in (EIGHT[:many], list(reversed(EIGHT[:many])), EIGHT[many:] + EIGHT[:many]):
                for tree in shapes(names)[::7]:
                    self.assertEqual(leaves(tree), names)

    def test_each_shape_of_eight(self):
        trees = shapes(EIGHT)
        self.assertEqual(len(trees), 429)
        for tree in trees:
            self.assertEqual(leaves(tree), EIGHT)

    def test_it_is_a_new_list(self):
        for tree in ("ann", ("ann", "bob")):
            told = leaves(tree)
            self.assertIs(type(told), list)
            told.append("zoe")
            self.assertNotEqual(leaves(tree), told)


class Refused(unittest.TestCase):
    def refused(self, thing):
        with self.subTest(thing):
            with self.assertRaises(NoTree):
                leaves(thing)
            # It goes first, whether or not the names have worths.
            for worths in ({}, {"ann": 5}, WORTHS, {name: 1 for name in NINE}):
                with self.assertRaises(NoTree):
                    tree_shares(thing, worths)

    def test_what_is_neither_a_name_nor_a_tuple_of_two(self):
        for thing in NO_TREES:
            self.refused(thing)

    def test_within_a_tuple(self):
        for thing in NO_PARTS:
            self.refused(("ann", thing))
            self.refused((thing, "ann"))
            self.refused((thing, thing))

    def test_deep_within(self):
        for thing in NO_TREES:
            for many in range(1, 8):
                self.refused(deep(thing, many))

    def test_up_to_thirty_deep(self):
        for many in (9, 20, 30):
            for thing in (None, "", 7, (), ["ann"], "ann", ("ann",)):
                left = thing
                right = thing
                for at in range(many):
                    left = (left, "x")
                    right = ("x", right)
                self.refused(left)
                self.refused(right)

    def test_one_part_in_more_places_than_can_be_walked(self):
        for thing in (None, "ann", ("ann", "bob"), ("ann", 7)):
            for turn in range(29):
                thing = (thing, thing)
            # Written out it would fill the memory, so it is no part of the words of a failure.
            with self.assertRaises(NoTree):
                leaves(thing)

    def test_nine_names(self):
        for tree in shapes(NINE)[::17]:
            self.refused(tree)
        self.refused(chain(NINE))
        self.refused((chain(EIGHT), "ida"))
        self.refused((chain(EIGHT), ("ida", "jon")))

    def test_a_name_twice(self):
        self.refused(("ann", "ann"))
        for tree in (("ann", ("bob", "ann")), (("ann", "bob"), ("cid", "bob")), (("ann", "bob"), ("ann", "bob"))):
            self.refused(tree)
        for at in range(1, 8):
            names = EIGHT[:at] + [EIGHT[0]] + EIGHT[at + 1:]
            self.refused(chain(names))
            for tree in shapes(names)[::60]:
                self.refused(tree)

    def test_tuples_of_one_and_of_three(self):
        for thing in [("ann",), ("ann", "bob", "cid"), (("ann", "bob"), ("cid",)), (("ann", "bob", "cid"), "dan"),
                      ("ann", "bob", "cid", "dan"), ((("ann", "bob"),), "cid")]:
            self.refused(thing)

    def test_a_name_without_a_worth(self):
        for tree, worths in [
                ("ann", {}), ("ann", {"bob": 1}), (("ann", "bob"), {}), (("ann", "bob"), {"ann": 1}),
                (("ann", "bob"), {"bob": 1}), ((("ann", "bob"), "cid"), {"ann": 1, "cid": 1}),
                (chain(EIGHT), {name: 1 for name in EIGHT[:7]}), (chain(EIGHT), {name: 1 for name in EIGHT[1:]})]:
            with self.subTest(tree=tree, worths=worths), self.assertRaises(NoPlayer):
                tree_shares(tree, worths)

    def test_leaves_ask_for_no_worths(self):
        self.assertEqual(leaves(("zoe", "yan")), ["zoe", "yan"])


class Shares(unittest.TestCase):
    def test_a_name_alone(self):
        for worth in (1, 7, 999):
            self.assertEqual(tree_shares("ann", {"ann": worth}), [("ann", (1, 1))])
        self.assertEqual(tree_shares("bob", WORTHS), [("bob", (1, 1))])

    def test_by_hand(self):
        worths = {"ann": 1, "bob": 2, "cid": 3}
        for tree, shares in [
                (("ann", "bob"), [("ann", (1, 3)), ("bob", (2, 3))]),
                (("bob", "ann"), [("ann", (1, 3)), ("bob", (2, 3))]),
                ((("ann", "bob"), "cid"), [("ann", (1, 12)), ("bob", (4, 15)), ("cid", (13, 20))]),
                (("ann", ("bob", "cid")), [("ann", (17, 60)), ("bob", (4, 15)), ("cid", (9, 20))])]:
            with self.subTest(tree):
                self.assertEqual(tree_shares(tree, worths), shares)

    def test_even_worths(self):
        worths = {name: 7 for name in EIGHT}
        self.assertEqual(tree_shares(((("ann", "bob"), ("cid", "dan")), (("eve", "fay"), ("gus", "hal"))), worths),
                         [(name, (1, 8)) for name in EIGHT])
        self.assertEqual(tree_shares(chain(EIGHT), worths),
                         [("ann", (1, 128)), ("bob", (1, 128)), ("cid", (1, 64)), ("dan", (1, 32)), ("eve", (1, 16)),
                          ("fay", (1, 8)), ("gus", (1, 4)), ("hal", (1, 2))])

    def test_the_least_and_the_greatest_worth(self):
        self.assertEqual(tree_shares(("ann", "bob"), {"ann": 1, "bob": 999}), [("ann", (1, 1000)), ("bob", (999, 1000))])
        self.assertEqual(tree_shares(("ann", "bob"), {"ann": 999, "bob": 999}), [("ann", (1, 2)), ("bob", (1, 2))])

    def test_by_the_words(self):
        for tree in some_trees():
            for worths in (WORTHS, {name: 1 + at * at for at, name in enumerate(EIGHT)}):
                with self.subTest(tree):
                    self.assertEqual(tree_shares(tree, worths), foretold(tree, worths))

    def test_sorted_by_names(self):
        for names in permutations(["dan", "ann", "cid", "bob"]):
            for tree in shapes(list(names)):
                self.assertEqual([name for name, share in tree_shares(tree, WORTHS)], ["ann", "bob", "cid", "dan"])

    def test_they_come_to_one(self):
        for tree in some_trees():
            whole = (0, 1)
            for name, share in tree_shares(tree, WORTHS):
                whole = plus(whole, share)
            self.assertEqual(whole, (1, 1))

    def test_other_names_of_the_worths_do_not_matter(self):
        tree = (("ann", "bob"), "cid")
        self.assertEqual(tree_shares(tree, WORTHS), tree_shares(tree, {"cid": 999, "bob": 1, "ann": 5}))

    def test_the_two_parts_of_a_tree_exchanged(self):
        def about(tree):
            return tree if isinstance(tree, str) else (about(tree[1]), about(tree[0]))
        for tree in some_trees():
            self.assertEqual(tree_shares(about(tree), WORTHS), tree_shares(tree, WORTHS))

    def test_kinds(self):
        shares = tree_shares(chain(EIGHT), WORTHS)
        self.assertIs(type(shares), list)
        for row in shares:
            self.assertIs(type(row), tuple)
            self.assertIs(type(row[1]), tuple)
            self.assertEqual(row[1], fraction(*row[1]))


class Raised(unittest.TestCase):
    def test_one_worth_raised_alone(self):
        for tree in some_trees():
            before = dict(tree_shares(tree, WORTHS))
            for name in before:
                for worth in (WORTHS[name] + 1, 2 * WORTHS[name], 999):
                    if worth > WORTHS[name]:
                        after = dict(tree_shares(tree, {**WORTHS, name: worth}))
                        self.assertFalse(under(after[name], before[name]))
                        if len(before) > 1:
                            self.assertTrue(under(before[name], after[name]))

    def test_step_by_step(self):
        tree = ((("ann", "bob"), "cid"), "dan")
        for name in ("ann", "bob", "cid", "dan"):
            told = [Fraction(*dict(tree_shares(tree, {**WORTHS, name: worth}))[name]) for worth in range(1, 1000, 37)]
            self.assertEqual(told, sorted(told))

    def test_on_all_small_worths(self):
        tree = (("ann", "bob"), ("cid", "dan"))
        for worths in product((1, 2, 3), repeat=4):
            named = dict(zip(("ann", "bob", "cid", "dan"), worths))
            before = dict(tree_shares(tree, named))
            for name in named:
                after = dict(tree_shares(tree, {**named, name: named[name] + 1}))
                self.assertTrue(under(before[name], after[name]))


if __name__ == "__main__":
    unittest.main()
