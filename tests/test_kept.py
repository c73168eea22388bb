"""Nothing that is handed in is changed, each told list is the asker's own, and nothing hangs on what was asked before."""

import unittest
from copy import deepcopy

from ladderworth.above import above, took, verdict, way
from ladderworth.books import in_order, players, points, read_book, show_book
from ladderworth.desk import Desk
from ladderworth.ends import ends, lowered, lowers, raised, uppers
from ladderworth.errors import LadderError, NoFit
from ladderworth.groups import group_shares
from ladderworth.ledger import Ledger
from ladderworth.ranks import best_case, places, ranking, worst_case
from ladderworth.rules import Capped, Early, Rested, Rule, share_by, table_of
from ladderworth.sums import fits, share, sums, weight
from ladderworth.texts import read_tree, show_fraction, show_tree
from ladderworth.trees import leaves, tree_shares
from ladderworth.walks import running, trail

RING = read_book("9 ann* beat bob; 1 bob beat cid; 5 cid beat ann")
LOOSE = read_book("1 ann drew bob; 2 cid drew dan")
NONE = read_book("1 ann beat bob; 2 bob beat cid")
WORTHS = [(1, 2), (3, 1), (2, 1)]
TABLE = [(0, (1, 2)), (10, (3, 5)), (60, (4, 5))]
TREE = (("cid", "ann"), "bob")
NAMED = {"bob": 3, "ann": 5, "cid": 7, "zoe": 1}
STRETCHES = [((1, 2), (1, 1)), ((2, 1), None), ((0, 1), (0, 1)), ((1, 3), (5, 2))]
ROWS = ["put 9 ann* beat bob", "put 1 bob beat cid", "put 5 cid beat ann", "book", "verdict", "way ann bob", "ends ann 7 3",
        "rank ann 7 3", "running", "worth bob 3", "worth ann 5", "tree (bob ann)", "group bob ann", "take 2", "book", "verdict"]


def rules_of(table):
    return [Rule(32, 1500, table), Early(32, 1500, table, 40, 2), Rested(32, 1500, table, 2, 3), Capped(32, 1500, table, 9)]


def sizes(table):
    return [rule.size(1, 7) for rule in rules_of(table)]


def bits(table, difference):
    return [rule.bit(difference, 2, 1, 7) for rule in rules_of(table)]


def trails(table, games):
    return [trail(rule, games) for rule in rules_of(table)]


def runnings(table, games):
    return [running(rule, games) for rule in rules_of(table)]


def ledgers(table, games):
    return [told_by_ledger(Ledger(rule), games) for rule in rules_of(table)]


def told_by_ledger(ledger, games):
    told = [ledger.put(played) for played in games]
    return told + [ledger.games(), ledger.worths(), ledger.take(1), ledger.games(), ledger.worths(), ledger.worth("cid")]


def forty_one(table, played):
    ledger = Ledger(Rule(32, 1500, table))
    for turn in range(41):
        ledger.put(played)


def taken(table, number):
    Ledger(Rule(32, 1500, table)).take(number)


def said(rows):
    desk = Desk()
    return [desk.say(row) for row in rows]


def worth_of(table, name):
    Ledger(Rule(32, 1500, table)).worth(name)


ASKED = [
    (read_book, ["9 ann beat bob; 1 bob drew cid"]), (read_book, [""]), (show_book, [RING]), (in_order, [RING]),
    (in_order, [[]]), (players, [RING]), (players, [[]]), (points, [RING]), (points, [[]]),
    (took, [RING, "ann"]), (took, [NONE, "ann"]), (above, [RING, "ann"]), (above, [NONE, "ann"]),
    (way, [RING, "ann", "bob"]), (way, [RING, "ann", "ann"]), (way, [NONE, "ann", "bob"]),
    (verdict, [RING]), (verdict, [LOOSE]), (verdict, [NONE]), (verdict, [[]]),
    (share, [(1, 2), (3, 1), 1, (3, 2)]), (sums, [RING, WORTHS, (3, 2)]), (sums, [RING, WORTHS]), (sums, [[], []]),
    (fits, [RING, WORTHS, (3, 2)]), (weight, [RING, WORTHS, (3, 2)]), (weight, [[], []]),
    (raised, [RING, [5, 0, 7], "ann", (3, 2)]), (lowered, [RING, [5, 0, 7], "ann", (3, 2)]),
    (uppers, [RING, "ann", 10, 0]), (uppers, [RING, "ann", 10, 12, (3, 2)]), (lowers, [RING, "cid", 10, 0]),
    (lowers, [RING, "cid", 10, 12, (3, 2)]), (ends, [RING, "bob", 10, 12]), (ends, [RING, "bob", 10, 0]),
    (table_of, [TABLE]), (table_of, [TABLE[:1]]), (share_by, [TABLE, (61, 2)]), (share_by, [TABLE, (-61, 2)]),
    (sizes, [TABLE]), (bits, [TABLE, (61, 2)]), (bits, [TABLE, (-10, 1)]), (trails, [TABLE, RING]), (trails, [TABLE, []]),
    (runnings, [TABLE, RING]), (runnings, [TABLE, []]), (ledgers, [TABLE, RING]), (ledgers, [TABLE, NONE]),
    (leaves, ["ann"]), (leaves, [TREE]), (tree_shares, [TREE, NAMED]), (tree_shares, ["ann", NAMED]),
    (group_shares, [["zoe", "ann", "cid", "bob"], NAMED]), (group_shares, [["cid", "ann"], NAMED]), (group_shares, [["ann"], NAMED]),
    (places, [WORTHS]), (places, [WORTHS * 2]), (ranking, [STRETCHES]), (ranking, [STRETCHES[:1]]), (ranking, [STRETCHES[:2] * 4]),
    (best_case, [STRETCHES, 1]), (best_case, [STRETCHES, 0]), (worst_case, [STRETCHES, 1]), (worst_case, [STRETCHES, 0]),
    (show_fraction, [(-1, 2)]), (read_tree, ["((cid ann) bob)"]), (show_tree, [TREE]), (said, [ROWS]), (said, [ROWS[3:5]]),
]

REFUSED = [
    (read_book, ["9 ann beat bob; x"]), (read_book, [["9 ann beat bob"]]), (took, [RING, "zoe"]), (above, [RING, "zoe"]),
    (way, [RING, "ann", "zoe"]), (way, [RING, "zoe", "ann"]), (sums, [RING, WORTHS[:2]]), (fits, [RING, WORTHS, (0, 1)]),
    (weight, [RING, [(1, 1), (0, 1), (1, 1)]]), (uppers, [LOOSE, "ann", 10, 3]), (lowers, [NONE, "ann", 10, 3]),
    (ends, [RING, "zoe", 10, 3]), (ends, [[], "zoe", 10, 3]),
    (table_of, [[]]), (table_of, [TABLE[1:]]), (table_of, [TABLE + [[70, [1, 1]]]]), (table_of, [TABLE * 4]), (table_of, [None]),
    (sizes, [TABLE[1:]]), (forty_one, [TABLE, RING[0]]), (taken, [TABLE, 1]), (worth_of, [TABLE, "ann"]),
    (leaves, [["ann", "bob"]]), (leaves, [("ann", ["bob"])]), (tree_shares, [("ann", []), NAMED]),
    (tree_shares, [("ann", "yan"), NAMED]), (tree_shares, ["ann", {}]),
    (group_shares, [[], NAMED]), (group_shares, [["cid", "ann", "cid"], NAMED]), (group_shares, [["cid", ["ann"]], NAMED]),
    (group_shares, [["cid", "yan"], NAMED]), (read_tree, [["ann", "bob"]]), (read_tree, [("ann", "bob")]), (show_tree, [["ann", "bob"]]),
    (said, [ROWS + [["book"]]]), (said, [ROWS + ["take 2"]]), (said, [ROWS + [{"book": 1}]]),
]


def spoil(thing):
    """Changes every list and dict in it, however deep."""
    if isinstance(thing, (list, tuple)):
        for part in thing:
            spoil(part)
    if isinstance(thing, dict):
        thing.clear()
    if isinstance(thing, list):
        thing.reverse()
        thing.append("spoiled")


class Kept(unittest.TestCase):
    def test_what_is_handed_in_stays(self):
        for asked, things in ASKED:
            handed = deepcopy(things)
            asked(*handed)
            with self.subTest(asked=asked, things=things):
                self.assertEqual(handed, things)

    def test_what_is_handed_in_stays_where_it_is_refused(self):
        for asked, things in REFUSED:
            handed = deepcopy(things)
            with self.subTest(asked=asked, things=things), self.assertRaises(LadderError):
                asked(*handed)
            self.assertEqual(handed, things)

    def test_told_lists_are_the_askers_own(self):
        for asked, things in ASKED:
            handed = deepcopy(things)
            first = asked(*handed)
            kept = deepcopy(first)
            spoil(first)
            with self.subTest(asked=asked, things=things):
                self.assertEqual(handed, things)
                self.assertEqual(asked(*handed), kept)

    def test_what_is_done_later_to_what_was_handed_in_changes_nothing_told(self):
        for asked, things in ASKED:
            handed = deepcopy(things)
            told = asked(*handed)
            kept = deepcopy(told)
            spoil(handed)
            with self.subTest(asked=asked, things=things):
                self.assertEqual(told, kept)

    def test_what_is_asked_in_between_changes_nothing(self):
        first = [asked(*deepcopy(things)) for asked, things in ASKED]
        kept = deepcopy(first)
        for asked, things in REFUSED:
            with self.assertRaises(LadderError):
                asked(*deepcopy(things))
        for asked, things in reversed(ASKED):
            spoil(asked(*deepcopy(things)))
        self.assertEqual(first, kept)
        self.assertEqual([asked(*deepcopy(things)) for asked, things in ASKED], kept)

    def test_the_verdict_of_a_refusal_is_the_askers_own(self):
        for games in (LOOSE, NONE, []):
            kept = verdict(games)
            with self.assertRaises(NoFit) as caught:
                uppers(games, "ann", 10, 3)
            spoil(caught.exception.verdict)
            with self.assertRaises(NoFit) as again:
                uppers(games, "ann", 10, 3)
            self.assertEqual(again.exception.verdict, kept)
            self.assertEqual(verdict(games), kept)


if __name__ == "__main__":
    unittest.main()
