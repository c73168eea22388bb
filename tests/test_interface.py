"""The names and arguments of the document's interface."""

import importlib
import inspect
import unittest

FUNCTIONS = {
    "ratios": ["is_whole(thing)", "fraction(top, bottom)", "plus(one, other)", "minus(one, other)", "times(one, other)",
               "over(one, other)", "under(one, other)"],
    "stretches": ["stretch(low, high)", "lies_in(one, part)", "meets(one, other)", "beneath(one, other)",
                  "widened(part, measure)"],
    "games": ["game(day, one, other, halves, side)", "turned(played)", "read_game(text)", "show_game(played)"],
    "books": ["read_book(text)", "show_book(games)", "in_order(games)", "players(games)", "points(games)"],
    "above": ["took(games, name)", "above(games, name)", "way(games, one, other)", "verdict(games)"],
    "sums": ["share(worth, other, side, edge)", "sums(games, worths, edge=None)", "fits(games, worths, edge=None)",
             "weight(games, worths, edge=None)"],
    "ends": ["raised(games, numbers, name, edge=None)", "lowered(games, numbers, name, edge=None)",
             "uppers(games, anchor, scale, rounds, edge=None)", "lowers(games, anchor, scale, rounds, edge=None)",
             "ends(games, anchor, scale, rounds, edge=None)"],
    "rules": ["table_of(rows)", "share_by(table, difference)", "Rule(step, first, table)",
              "Early(step, first, table, early, many)", "Rested(step, first, table, pause, times)",
              "Capped(step, first, table, cap)"],
    "walks": ["trail(rule, games)", "running(rule, games)"],
    "ledger": ["Ledger(rule)"],
    "trees": ["leaves(tree)", "tree_shares(tree, worths)"],
    "groups": ["group_shares(names, worths)"],
    "ranks": ["places(worths)", "ranking(stretches)", "best_case(stretches, at)", "worst_case(stretches, at)"],
    "texts": ["show_fraction(one)", "read_tree(text)", "show_tree(tree)"],
    "desk": ["Desk()"],
    "errors": ["NoFit(verdict)"],
}
METHODS = {
    ("rules", "Rule"): ["size(self, played, rest)", "bit(self, difference, halves, played, rest)"],
    ("rules", "Early"): ["size(self, played, rest)", "bit(self, difference, halves, played, rest)"],
    ("rules", "Rested"): ["size(self, played, rest)", "bit(self, difference, halves, played, rest)"],
    ("rules", "Capped"): ["size(self, played, rest)", "bit(self, difference, halves, played, rest)"],
    ("ledger", "Ledger"): ["put(self, played)", "take(self, number)", "games(self)", "worths(self)", "worth(self, name)"],
    ("desk", "Desk"): ["say(self, row)"],
}


def module(name):
    return importlib.import_module("ladderworth." + name)


class Interface(unittest.TestCase):
    def check(self, holder, row):
        name = row.partition("(")[0]
        with self.subTest(row):
            self.assertEqual(name + str(inspect.signature(getattr(holder, name))), row)

    def test_functions_and_classes(self):
        for name, rows in FUNCTIONS.items():
            for row in rows:
                self.check(module(name), row)

    def test_methods(self):
        for (name, owner), rows in METHODS.items():
            for row in rows:
                self.check(getattr(module(name), owner), row)


if __name__ == "__main__":
    unittest.main()
