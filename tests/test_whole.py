"""What the document promises over the whole program, seen from the answers of the desk alone."""

import unittest
from fractions import Fraction
from itertools import permutations, product

from ladderworth.desk import Desk
from ladderworth.errors import LadderError
from tests.plain_desk import read_plain_game, write_game
from tests.reference import LONG, four, fitted, names_of, shapes, sum_of, three, value

FOUR = ["ann", "bob", "cid", "dan"]


def desk(games):
    made = Desk()
    for played in games:
        made.say("put " + write_game(played))
    return made


def rows(answer):
    return [] if answer == "none" else [row.split(" ") for row in answer.split("; ")]


def shares(answer):
    return {name: Fraction(share) for name, share in rows(answer)}


def worths(one):
    return shares(one.say("running"))


def written(tree):
    return tree if isinstance(tree, str) else f"({written(tree[0])} {written(tree[1])})"


class Verdicts(unittest.TestCase):
    def test_one_of_three_words(self):
        for games in three()[::3] + four()[::17]:
            answer = desk(games).say("verdict").split(" ")
            names = names_of(games)
            with self.subTest(games):
                if answer[0] == "none":
                    self.check_none(games, answer[1:])
                elif answer[0] == "one":
                    self.assertEqual((answer, len(names) > 1), (["one"], True))
                else:
                    parts = " ".join(answer[1:]).split(" / ")
                    self.check_loose(games, [part.split(" ") for part in parts if part])

    def check_none(self, games, those):
        """They took all from all others whom they met, so at all worths their sums together are below 0."""
        met = [played for played in games if (played[1] in those) != (played[2] in those)]
        self.assertGreater(len(met), 0)
        for day, one, other, halves, side in met:
            self.assertEqual(halves, 2 if one in those else 0)
        for numbers in product((1, 7, 1000), repeat=len(names_of(games))):
            named = dict(zip(names_of(games), [Fraction(number) for number in numbers]))
            self.assertLess(sum(sum_of(games, named, name, None) for name in those), 0)

    def check_loose(self, games, parts):
        self.assertNotEqual(len(parts), 1)
        self.assertEqual(sorted(name for part in parts for name in part), names_of(games))
        for played in games:
            self.assertEqual(len([part for part in parts if played[1] in part and played[2] in part]), 1)

    def test_books_that_are_known_to_fit(self):
        for games, fit, edge in fitted():
            self.assertEqual(desk(games).say("verdict"), "one")


class Ends(unittest.TestCase):
    def test_worths_that_fit_lie_between_and_their_places_too(self):
        settled = 0
        for games, fit, edge in fitted():
            if edge is not None:
                continue
            one = desk(games)
            for at, anchor in enumerate(names_of(games)):
                own = [value(worth) / value(fit[at]) for worth in fit]
                for scale, rounds in [(1, 1), (7, 3), (60, 12), (1000, 12)]:
                    told = rows(one.say(f"ends {anchor} {scale} {rounds}"))
                    ranks = rows(one.say(f"rank {anchor} {scale} {rounds}"))
                    self.assertEqual([row[0] for row in told], names_of(games))
                    self.assertEqual([row[0] for row in ranks], names_of(games))
                    for worth, (name, low, high), (name, best, worst) in zip(own, told, ranks):
                        self.assertLessEqual(Fraction(low), worth)
                        if high != "-":
                            settled += 1
                            self.assertLessEqual(worth, Fraction(high))
                        self.assertLessEqual(int(best), 1 + len([other for other in own if other > worth]))
                        self.assertGreaterEqual(int(worst), len(own) - len([other for other in own if other < worth]))
        self.assertGreater(settled, 50)

    def test_one_win_more(self):
        tried = 0
        for games in three()[::5] + [games for games, fit, edge in fitted()]:
            one = desk(games)
            if one.say("verdict") != "one":
                continue
            for anchor, other in permutations(names_of(games), 2):
                before = rows(one.say(f"ends {anchor} 50 4"))
                for word, sign in [("lost", 1), ("beat", -1)]:
                    number = one.say(f"put 5 {anchor} {word} {other}")
                    after = rows(one.say(f"ends {anchor} 50 4"))
                    one.say("take " + number)
                    tried += self.moved(before, after, sign)
        self.assertGreater(tried, 200)

    def moved(self, before, after, sign):
        """Where a row is settled both times, nobody's end goes against the sign."""
        found = 0
        for place in (1, 2):
            if not all(is_settled(told, place) for told in (before, after)):
                continue
            for old, new in zip(before, after):
                found += 1
                self.assertGreaterEqual(sign * (Fraction(new[place]) - Fraction(old[place])), 0)
        return found


def is_settled(told, place):
    """The anchor's own number is the scale, so a low of 0 or no high tells that the row isn't settled."""
    return not any(row[2] == "-" for row in told) if place == 2 else any(row[1] == "1" for row in told)


class Running(unittest.TestCase):
    def test_they_keep_their_sum(self):
        for games in three()[::7] + four()[::29] + [LONG]:
            one = Desk()
            for played in games:
                one.say("put " + write_game(played))
                self.assertEqual(sum(worths(one).values()), 1500 * len(worths(one)))
            for number in range(1, len(games) + 1):
                one.say(f"take {number}")
                self.assertEqual(sum(worths(one).values()), 1500 * len(worths(one)))

    def test_they_are_moved_by_none_who_did_not_play(self):
        one = Desk()
        for played in LONG:
            # On the last day it goes behind all others.
            before = worths(one)
            one.say("put " + write_game((9999,) + played[1:]))
            after = worths(one)
            for name in after:
                if name not in played[1:3]:
                    self.assertEqual(after[name], before[name])

    def test_they_hang_on_the_book_alone_in_whatever_order_it_was_told(self):
        games = [(day,) + played[1:] for day, played in enumerate(LONG)]
        told = desk(games).say("running")
        for order in (games[::-1], games[1::2] + games[::2], sorted(games, key=lambda played: played[1:])):
            self.assertEqual(desk(order).say("running"), told)
            self.assertEqual(desk(order).say("book"), desk(games).say("book"))
        for order in permutations(games[:5]):
            self.assertEqual(desk(order).say("running"), desk(games[:5]).say("running"))

    def test_what_was_taken_back_or_put_twice_leaves_nothing(self):
        games = [(day,) + played[1:] for day, played in enumerate(LONG)]
        one = desk(games + games[:15])
        for number in range(1, 16):
            one.say(f"take {number}")
        self.assertEqual(one.say("running"), desk(games).say("running"))

    def test_the_book_read_again(self):
        for games in three()[::11] + [LONG]:
            one = desk(games)
            book = one.say("book")
            again = desk([read_plain_game(text) for text in book.split("; ")] if book != "none" else [])
            for row in ("book", "verdict", "running"):
                self.assertEqual(again.say(row), one.say(row))


class Foretold(unittest.TestCase):
    def rows_over(self, many):
        names = FOUR[:many]
        return ["group " + " ".join(names)] + ["tree " + written(tree) for tree in shapes(names)]

    def told_worths(self, numbers):
        one = Desk()
        for name, number in zip(FOUR, numbers):
            one.say(f"worth {name} {number}")
        return one

    def test_shares_come_to_one(self):
        for many in range(1, 5):
            for numbers in product((1, 4, 999), repeat=many):
                one = self.told_worths(numbers)
                for row in self.rows_over(many):
                    self.assertEqual(sum(shares(one.say(row)).values()), 1)
                    self.assertEqual(list(shares(one.say(row))), FOUR[:many])

    def test_whose_worth_is_raised_is_never_less_likely(self):
        for many in range(1, 5):
            for numbers in product((1, 4, 700), repeat=many):
                for at, name in enumerate(FOUR[:many]):
                    one = self.told_worths(numbers)
                    before = [shares(one.say(row))[name] for row in self.rows_over(many)]
                    one.say(f"worth {name} {numbers[at] + 1}")
                    after = [shares(one.say(row))[name] for row in self.rows_over(many)]
                    self.assertTrue(all(old <= new for old, new in zip(before, after)))

    def test_in_a_group_nobody_is_less_likely_than_who_is_worth_less(self):
        for many in range(2, 5):
            for numbers in product((1, 2, 30, 999), repeat=many):
                told = shares(self.told_worths(numbers).say("group " + " ".join(FOUR[:many])))
                by_worth = [told[name] for number, name in sorted(zip(numbers, FOUR))]
                self.assertEqual(by_worth, sorted(by_worth))


class Refusals(unittest.TestCase):
    def test_each_is_a_ladder_error_and_a_value_error(self):
        one = desk(LONG)
        for row in (None, "", "put", "put ", "take 99", "ends ann 0 1", "way ann zoe", "tree ann", "tree ()", "group ",
                    "worth ann 0",
                    "ends ann 7 1", "put 1 zoe beat ann"):
            for taken in (LadderError, ValueError):
                with self.subTest(row=row, taken=taken), self.assertRaises(taken):
                    one.say(row)


if __name__ == "__main__":
    unittest.main()
