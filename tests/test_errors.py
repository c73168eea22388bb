import unittest

from ladderworth import errors
from ladderworth.above import above, took, way
from ladderworth.books import read_book
from ladderworth.desk import Desk
from ladderworth.ends import ends, lowers, uppers
from ladderworth.errors import LadderError, NoFit
from ladderworth.games import game, read_game
from ladderworth.groups import group_shares
from ladderworth.ledger import Ledger
from ladderworth.ratios import fraction, over
from ladderworth.rules import Rule, table_of
from ladderworth.stretches import stretch
from ladderworth.sums import fits, sums, weight
from ladderworth.texts import read_tree, show_tree
from ladderworth.trees import leaves, tree_shares

NAMES = ["NoNumber", "NoStretch", "NoGame", "NoBook", "NoPlayer", "NoWorth", "NoFit", "NoTable", "NoTree", "NoRow"]
EVEN = [(1, "ann", "bob", 1, 0)]
RULE = Rule(32, 1500, [(0, (1, 2))])
FULL = Ledger(RULE)
for turn in range(40):
    FULL.put(EVEN[0])


def refusal(name):
    return getattr(errors, name)("said")


def raise_it(error):
    raise error


class Classes(unittest.TestCase):
    def test_each_stands_right_under_ladder_error(self):
        self.assertEqual(LadderError.__bases__, (ValueError,))
        for name in NAMES:
            with self.subTest(name):
                self.assertEqual(getattr(errors, name).__bases__, (LadderError,))

    def test_each_is_none_of_the_others(self):
        for name in NAMES:
            for other in NAMES:
                with self.subTest(name=name, other=other):
                    self.assertEqual(isinstance(refusal(name), getattr(errors, other)), name == other)

    def test_each_is_taken_by_its_own_name_and_by_the_general_ones(self):
        for name in NAMES:
            for taken in (getattr(errors, name), LadderError, ValueError):
                with self.subTest(name=name, taken=taken), self.assertRaises(taken):
                    raise_it(refusal(name))

    def test_none_is_taken_by_the_name_of_another(self):
        for name in NAMES:
            for other in NAMES:
                if name == other:
                    continue
                with self.subTest(name=name, other=other):
                    try:
                        try:
                            raise_it(refusal(name))
                        except getattr(errors, other):
                            self.fail("taken by the wrong name")
                    except LadderError as e:
                        self.assertIs(type(e), getattr(errors, name))


class Raised(unittest.TestCase):
    CASES = [
        ("NoNumber", fraction, (1, 0)),
        ("NoNumber", fraction, (None, 1)),
        ("NoNumber", over, ((1, 2), (0, 1))),
        ("NoStretch", stretch, ((1, 1), (0, 1))),
        ("NoGame", game, (0, "ann", "ann", 2, 0)),
        ("NoGame", read_game, ("",)),
        ("NoGame", read_game, (None,)),
        ("NoGame", read_book, (None,)),
        ("NoGame", read_book, ("1 ann beat bob;",)),
        ("NoBook", read_book, ("; ".join(["1 ann beat bob"] * 41),)),
        ("NoPlayer", took, ([], "ann")),
        ("NoPlayer", above, ([], "ann")),
        ("NoPlayer", way, (EVEN, "ann", "zoe")),
        ("NoPlayer", way, (EVEN, "zoe", "ann")),
        ("NoWorth", sums, (EVEN, [])),
        ("NoWorth", fits, (EVEN, [(0, 1), (1, 1)])),
        ("NoWorth", weight, (EVEN, [(1, 1), (1, 1)], (0, 1))),
        ("NoFit", uppers, ([], "ann", 1, 1)),
        ("NoFit", lowers, ([], "ann", 1, 1)),
        ("NoFit", ends, ([], "ann", 1, 1)),
        ("NoPlayer", uppers, (EVEN, "zoe", 1, 1)),
        ("NoPlayer", lowers, (EVEN, "zoe", 1, 1)),
        ("NoPlayer", ends, (EVEN, "zoe", 1, 1)),
        ("NoTable", table_of, (None,)),
        ("NoTable", table_of, ([],)),
        ("NoTable", table_of, ([(0, (1, 0))],)),
        ("NoTable", Rule, (32, 1500, [])),
        ("NoBook", FULL.put, (EVEN[0],)),
        ("NoGame", FULL.take, (0,)),
        ("NoGame", Ledger(RULE).take, (1,)),
        ("NoPlayer", FULL.worth, ("zoe",)),
        ("NoPlayer", Ledger(RULE).worth, ("ann",)),
        ("NoTree", leaves, (None,)),
        ("NoTree", leaves, (("ann", "ann"),)),
        ("NoTree", tree_shares, (("ann", 7), {})),
        ("NoPlayer", tree_shares, ("ann", {})),
        ("NoTree", group_shares, ([], {})),
        ("NoTree", group_shares, (["ann", "ann"], {"ann": 5})),
        ("NoPlayer", group_shares, (["ann"], {})),
        ("NoTree", read_tree, (None,)),
        ("NoTree", read_tree, ("",)),
        ("NoTree", read_tree, ("(ann ann)",)),
        ("NoTree", show_tree, (["ann", "bob"],)),
        ("NoRow", Desk().say, (None,)),
        ("NoRow", Desk().say, ("",)),
        ("NoRow", Desk().say, ("take 01",)),
        ("NoGame", Desk().say, ("put ",)),
        ("NoGame", Desk().say, ("take 1",)),
        ("NoTree", Desk().say, ("tree ",)),
        ("NoTree", Desk().say, ("group ",)),
        ("NoPlayer", Desk().say, ("tree ann",)),
        ("NoPlayer", Desk().say, ("way ann bob",)),
        ("NoFit", Desk().say, ("ends ann 1 1",)),
    ]

    def test_each_function_raises_just_its_own_class(self):
        for name, asked, things in self.CASES:
            for taken in (getattr(errors, name), LadderError):
                with self.subTest(name=name, things=things, taken=taken):
                    with self.assertRaises(taken) as caught:
                        asked(*things)
                    self.assertIs(type(caught.exception), getattr(errors, name))


class Verdict(unittest.TestCase):
    VERDICTS = [("none", ["ann"]), ("one", ["ann", "bob"]), ("loose", [["ann", "bob"], ["cid", "dot"]]), ("loose", [])]

    def test_the_field_is_the_verdict(self):
        for verdict in self.VERDICTS:
            with self.subTest(verdict):
                with self.assertRaises(NoFit) as caught:
                    raise NoFit(verdict)
                self.assertEqual(caught.exception.verdict, verdict)
                self.assertIs(type(caught.exception.verdict), tuple)
                self.assertIs(type(caught.exception.verdict[1]), list)

    def test_each_object_has_its_own(self):
        one = NoFit(("one", ["ann"]))
        NoFit(("loose", []))
        self.assertEqual(one.verdict, ("one", ["ann"]))

    def test_what_is_done_later_to_what_was_handed_in_changes_nothing(self):
        verdict = ("loose", [["ann", "bob"], ["cid", "dot"]])
        error = NoFit(verdict)
        words = str(error)
        verdict[1][0].append("eve")
        verdict[1].append(["fay"])
        self.assertEqual(error.verdict, ("loose", [["ann", "bob"], ["cid", "dot"]]))
        self.assertEqual(str(error), words)

    def test_what_is_done_to_the_field_changes_nothing_that_was_handed_in(self):
        verdict = ("loose", [["ann", "bob"]])
        NoFit(verdict).verdict[1][0].clear()
        self.assertEqual(verdict, ("loose", [["ann", "bob"]]))


if __name__ == "__main__":
    unittest.main()
