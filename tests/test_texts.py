import unittest
from itertools import product

from ladderworth.errors import NoTree
from ladderworth.ratios import fraction, times
from ladderworth.texts import read_tree, show_fraction, show_tree
from ladderworth.trees import leaves
from tests.reference import read_plain_tree, shapes

NINE = ["ann", "bob", "cid", "dan", "eve", "fay", "gus", "hal", "ida"]
EIGHT = NINE[:8]
LONG_NAMES = ["abcdefgh", "z", "hgfedcba", "a", "zzzzzzzz", "aa", "mnopqrst", "qq"]


def chained(names, left):
    text = names[0]
    for name in names[1:]:
        text = "(" + text + " " + name + ")" if left else "(" + name + " " + text + ")"
    return text


def tree_texts():
    found = []
    for names in (EIGHT, EIGHT[::-1], LONG_NAMES):
        for many in range(1, 9):
            found += [show_tree(tree) for tree in shapes(names[:many])[::13]]
    return found


class Fractions(unittest.TestCase):
    def test_by_hand(self):
        for one, text in [
                ((0, 1), "0"), ((1, 1), "1"), ((-1, 1), "-1"), ((1500, 1), "1500"), ((-1500, 1), "-1500"),
                ((1, 2), "1/2"),
                ((-1, 2), "-1/2"), ((7564, 5), "7564/5"), ((-22, 7), "-22/7"), ((1, 10), "1/10"), ((10, 1), "10"),
                ((100, 3), "100/3"), ((3, 100), "3/100")]:
            with self.subTest(one):
                self.assertEqual(show_fraction(one), text)

    def test_small_ones(self):
        for top in range(-40, 41):
            for bottom in range(1, 25):
                one = fraction(top, bottom)
                self.assertEqual(show_fraction(one), f"{one[0]}" if one[1] == 1 else f"{one[0]}/{one[1]}")

    def test_of_sixty_figures(self):
        for top in (10 ** 59, 10 ** 60 - 1, 10 ** 60, 10 ** 60 + 1, 10 ** 61, 10 ** 120, 10 ** 120 - 1,
                    7 * 10 ** 119 + 3):
            for one in (fraction(top, 1), fraction(-top, 1), fraction(top, 7), fraction(-7, top)):
                self.assertEqual(show_fraction(one), f"{one[0]}" if one[1] == 1 else f"{one[0]}/{one[1]}")

    def test_of_as_many_figures_as_it_has(self):
        # Products told by the program may be handed in; Python's own writing ends at some thousand figures.
        one = (10 ** 3000 + 7, 1)
        self.assertEqual(show_fraction(times(one, one)), "1" + "0" * 2998 + "14" + "0" * 2998 + "49")
        self.assertEqual(show_fraction(times(one, (-(10 ** 3000), 1))), "-1" + "0" * 2999 + "7" + "0" * 3000)
        self.assertEqual(show_fraction(times((1, 10 ** 3000), (1, 10 ** 3000))), "1/1" + "0" * 6000)

    def test_it_is_a_text(self):
        for one in ((0, 1), (1, 2), (-5, 1)):
            self.assertIs(type(show_fraction(one)), str)


class Trees(unittest.TestCase):
    def test_by_hand(self):
        for tree, text in [
                ("ann", "ann"), ("a", "a"), ("abcdefgh", "abcdefgh"), (("ann", "bob"), "(ann bob)"),
                (("bob", "ann"), "(bob ann)"),
                ((("ann", "bob"), "cid"), "((ann bob) cid)"), (("ann", ("bob", "cid")), "(ann (bob cid))"),
                ((("d", "c"), ("b", "a")), "((d c) (b a))"),
                (("z", (("y", "x"), "w")), "(z ((y x) w))")]:
            with self.subTest(text):
                self.assertEqual(show_tree(tree), text)
                self.assertEqual(read_tree(text), tree)

    def test_brackets_seven_deep(self):
        for left in (True, False):
            text = chained(EIGHT, left)
            self.assertEqual(text.count("("), 7)
            self.assertEqual(show_tree(read_tree(text)), text)
        self.assertEqual(read_tree("(((((((a b) c) d) e) f) g) h)"),
                         ((((((("a", "b"), "c"), "d"), "e"), "f"), "g"), "h"))
        self.assertEqual(read_tree("(a (b (c (d (e (f (g h)))))))"),
                         ("a", ("b", ("c", ("d", ("e", ("f", ("g", "h"))))))))

    def test_shown_and_read_again(self):
        for names in (EIGHT, LONG_NAMES):
            for many in range(1, 9):
                for tree in shapes(names[:many]):
                    text = show_tree(tree)
                    self.assertIs(type(text), str)
                    self.assertEqual(read_tree(text), tree)
                    self.assertEqual(leaves(read_tree(text)), names[:many])
                    self.assertEqual(text.count("("), many - 1)

    def test_read_and_shown_again(self):
        for text in tree_texts():
            self.assertEqual(show_tree(read_tree(text)), text)


class Refused(unittest.TestCase):
    def refused(self, text):
        with self.subTest(text), self.assertRaises(NoTree):
            read_tree(text)

    def test_by_hand(self):
        for text in [
                "", " ", "(", ")", "()", "( )", ") (", "(ann)", "(ann )", "( ann)", "(ann bob", "ann bob)", "ann bob",
                "(ann  bob)",
                "( ann bob)", "(ann bob )", " (ann bob)", "(ann bob) ", " ann", "ann ", "(annbob)", "(ann,bob)",
                "(ann\tbob)",
                "ann\n", "(ann bob)\n", "(ann bob))", "((ann bob)", "((ann bob))", "(ann bob cid)", "((ann bob)cid)",
                "(ann(bob cid))", "((ann bob)  cid)", "(ann bob)(cid dan)", "(ann bob) (cid dan)", "(ann (bob cid)",
                "(ann bob) cid",
                "(ann bob)cid", "ann(bob cid)", "(ann bob) )", "[ann bob]", "(ann; bob)", "(ann, bob)", "('ann' 'bob')",
                "((ann) bob)"]:
            self.refused(text)

    def test_eight_deep(self):
        for left in (True, False):
            self.refused(chained(NINE, left))
            self.refused(chained(["ann"] * 9, left))
        self.refused("((((((((a b)))))))")
        self.refused("(" * 8 + "a" + " b)" * 8)
        self.refused("(" * 7 + "(a b)" + " b)" * 7)

    def test_many_brackets(self):
        for text in ("(" * 4000, ")" * 4000, "(a " * 1333, "(" * 1000 + "a" + " b)" * 1000, "(" * 2000 + ")" * 2000,
                     " " * 4000,
                     "() " * 1333):
            with self.assertRaises(NoTree):
                read_tree(text)

    def test_a_name_twice(self):
        for text in ("(ann ann)", "((ann bob) ann)", "(ann (bob ann))", "((ann bob) (cid bob))",
                     "((ann bob) (ann bob))",
                     "(" + chained(EIGHT[:6], True) + " ann)"):
            self.refused(text)

    def test_nine_names(self):
        for tree in shapes(NINE)[::31]:
            text = str(tree).replace("'", "").replace(",", "")
            self.assertEqual(len(text.replace("(", "").replace(")", "").split()), 9)
            self.refused(text)
        names = [chr(97 + at) for at in range(16)]
        while len(names) > 1:
            names = ["(" + one + " " + other + ")" for one, other in zip(names[::2], names[1::2])]
        self.refused(names[0])

    def test_names_too_long_or_with_other_signs(self):
        for name in ("abcdefghi", "a" * 4000, "Ann", "ANN", "ann1", "1", "a_b", "a-b", "a*", "ann*", "a.b", "'ann'",
                     "~", "ann,"):
            self.refused(name)
            self.refused("(" + name + " bob)")
            self.refused("(bob " + name + ")")
            self.refused("((bob " + name + ") cid)")

    def test_what_is_no_text(self):
        for thing in (None, True, 0, 7, 0.5, b"ann", ["ann"], ("ann", "bob"), ("ann",), {}, {"ann": 1}, object()):
            self.refused(thing)

    def test_each_tree_with_one_sign_more_less_or_another(self):
        """By the words, done by rewriting the brackets from within."""
        refused = 0
        for text in ("ann", "(a b)", "((a b) c)", "(ann (b abcdefgh))", "((a b) (c d))"):
            for at in range(len(text) + 1):
                for sign, gone in product(("", " ", "(", ")", "a", "b", "X", "*"), (0, 1)):
                    other = text[:at] + sign + text[at + gone:]
                    expected = read_plain_tree(other)
                    if expected is None:
                        refused += 1
                        self.refused(other)
                    else:
                        self.assertEqual(read_tree(other), expected)
        self.assertGreater(refused, 300)

    def test_every_short_text(self):
        found = []
        for many in range(8):
            for signs in product("ab ()", repeat=many):
                text = "".join(signs)
                try:
                    found.append((text, read_tree(text)))
                except NoTree:
                    continue
        self.assertEqual(found, [(text, read_plain_tree(text)) for text, tree in found])
        names = ["".join(signs) for many in range(1, 8) for signs in product("ab", repeat=many)]
        pairs = [f"({one} {other})" for one in names for other in names if one != other and len(one) + len(other) <= 4]
        self.assertEqual(sorted(text for text, tree in found), sorted(names + pairs))

    def test_shown_is_what_is_a_tree_alone(self):
        for thing in (None, "", "Ann", "(ann bob)", 7, [], ["ann", "bob"], (), ("ann",), ("ann", "ann"),
                      ("ann", "bob", "cid"),
                      ("ann", ["bob"]), ("ann", ("bob", None)), shapes(NINE)[0], shapes(NINE)[-1]):
            with self.subTest(thing), self.assertRaises(NoTree):
                show_tree(thing)


if __name__ == "__main__":
    unittest.main()
