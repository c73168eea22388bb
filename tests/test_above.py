import unittest
from itertools import permutations, product

from ladderworth.above import above, took, verdict, way
from ladderworth.books import players, read_book
from ladderworth.errors import NoPlayer
from ladderworth.games import turned
from ladderworth.sums import fits, sums
from tests.reference import (both_ways, closure, first_way, fitted, four, judged, names_of, pair, parts_of, takers, three,
                             value)

RING = read_book("1 ann beat bob; 1 bob beat cid; 1 cid beat ann")
ROW = read_book("1 ann beat bob; 2 bob beat cid; 3 cid beat dan")
APART = read_book("1 ann drew bob; 2 cid beat dan; 3 dan beat cid")
NO_NAMES = ["eve", "", "an", "annn", "Ann", "ann ", "ann*", None, 0, True, [], ["ann"], ("ann",), {}]


class Took(unittest.TestCase):
    def test_won_drawn_and_lost_told_by_either(self):
        for text, from_ann, from_bob in [
                ("1 ann beat bob", [], ["ann"]), ("1 bob lost ann", [], ["ann"]),
                ("1 ann lost bob", ["bob"], []), ("1 bob beat ann", ["bob"], []),
                ("1 ann drew bob", ["bob"], ["ann"]), ("1 bob drew ann", ["bob"], ["ann"])]:
            for star in ("", "*"):
                games = read_book(text + star)
                with self.subTest(text + star):
                    self.assertEqual(took(games, "ann"), from_ann)
                    self.assertEqual(took(games, "bob"), from_bob)

    def test_each_once_sorted(self):
        games = read_book("1 zoe beat ann; 2 bob beat ann; 3 zoe drew ann; 4 ann lost cid; 5 ann drew bob; 6 ann beat dan")
        self.assertEqual(took(games, "ann"), ["bob", "cid", "zoe"])
        self.assertIs(type(took(games, "ann")), list)

    def test_games_between_others_do_not_matter(self):
        self.assertEqual(took(ROW, "ann"), [])
        self.assertEqual(took(ROW, "dan"), ["cid"])

    def test_small_books(self):
        for games in three() + four()[::5]:
            for name in names_of(games):
                self.assertEqual(took(games, name), sorted(takers(games, name)), games)


class Above(unittest.TestCase):
    def test_some_by_hand(self):
        for name in ("ann", "bob", "cid"):
            self.assertEqual(above(RING, name), ["ann", "bob", "cid"])
        self.assertEqual([above(ROW, name) for name in players(ROW)],
                         [["ann"], ["ann", "bob"], ["ann", "bob", "cid"], ["ann", "bob", "cid", "dan"]])
        self.assertEqual(above(APART, "bob"), ["ann", "bob"])
        self.assertEqual(above(APART, "cid"), ["cid", "dan"])

    def test_the_player_itself_is_among_them(self):
        self.assertEqual(above(read_book("1 ann beat bob"), "ann"), ["ann"])

    def test_small_books(self):
        for games in three() + four():
            for name in names_of(games):
                self.assertEqual(above(games, name), closure(games, name), games)

    def test_nobody_else_took_anything_from_one_of_them(self):
        for games in four()[::3]:
            for name in names_of(games):
                those = above(games, name)
                for one in those:
                    self.assertLessEqual(set(took(games, one)), set(those))

    def test_a_row_of_eight(self):
        names = ["hal", "ann", "gus", "bob", "fay", "cid", "eve", "dan"]
        games = [(1, one, other, 2, 0) for one, other in zip(names, names[1:])]
        for at, name in enumerate(names):
            self.assertEqual(above(games, name), sorted(names[:at + 1]))


class Way(unittest.TestCase):
    def test_from_a_player_to_itself(self):
        for games in (RING, ROW, APART, read_book("1 ann beat bob; 2 bob beat ann")):
            for name in players(games):
                self.assertEqual(way(games, name, name), [name])

    def test_each_took_something_from_the_one_ahead(self):
        self.assertEqual(way(ROW, "dan", "ann"), ["dan", "cid", "bob", "ann"])
        self.assertEqual(way(ROW, "cid", "bob"), ["cid", "bob"])
        self.assertEqual(way(RING, "ann", "bob"), ["ann", "cid", "bob"])
        self.assertEqual(way(RING, "ann", "cid"), ["ann", "cid"])

    def test_no_way(self):
        self.assertIsNone(way(ROW, "ann", "dan"))
        self.assertIsNone(way(ROW, "ann", "bob"))
        self.assertIsNone(way(APART, "ann", "cid"))
        self.assertIsNone(way(APART, "dan", "bob"))

    def test_the_shortest_goes_ahead_of_names(self):
        games = read_book("1 bob beat ann; 2 cid beat bob; 3 dan beat cid; 4 zoe beat ann; 5 dan beat zoe")
        self.assertEqual(way(games, "ann", "dan"), ["ann", "zoe", "dan"])

    def test_of_the_shortest_the_first_by_names(self):
        rows = ["1 bob beat ann", "2 cid beat ann", "3 zoe beat bob", "4 yan beat cid", "5 xan beat zoe", "6 xan beat yan"]
        for order in list(permutations(rows))[::11]:
            games = read_book("; ".join(order))
            self.assertEqual(way(games, "ann", "xan"), ["ann", "bob", "zoe", "xan"])

    def test_the_first_by_names_may_end_early(self):
        games = read_book("1 b beat a; 2 bb beat a; 3 z beat bb; 4 z beat b; 5 aa beat z")
        self.assertEqual(way(games, "a", "aa"), ["a", "b", "z", "aa"])

    def test_a_name_that_is_first_but_leads_nowhere(self):
        games = read_book("1 bob beat ann; 2 cid beat ann; 3 dan beat cid; 4 eve beat bob")
        self.assertEqual(way(games, "ann", "dan"), ["ann", "cid", "dan"])

    def test_a_drawn_game_goes_both_ways(self):
        games = read_book("1 ann drew bob; 2 bob drew cid")
        self.assertEqual(way(games, "ann", "cid"), ["ann", "bob", "cid"])
        self.assertEqual(way(games, "cid", "ann"), ["cid", "bob", "ann"])

    def test_small_books(self):
        for games in three() + four():
            for one, other in product(names_of(games), repeat=2):
                self.assertEqual(way(games, one, other), first_way(games, one, other), (games, one, other))

    def test_many_shortest_ways_among_eight(self):
        layers = [["start"], ["f", "c", "e"], ["b", "g", "a"], ["end"]]
        games = [(1, late, early, 2, 0) for low, high in zip(layers, layers[1:]) for early in low for late in high]
        self.assertEqual(way(games, "start", "end"), ["start", "c", "a", "end"])
        self.assertEqual(way([played for played in games if played[1:3] != ("a", "c")], "start", "end"),
                         ["start", "c", "b", "end"])

    def test_where_there_is_a_way_the_last_is_above_the_first(self):
        for games in four()[::3]:
            for one, other in product(names_of(games), repeat=2):
                self.assertEqual(way(games, one, other) is not None, other in above(games, one))


class NoPlayers(unittest.TestCase):
    def test_names_that_are_no_players(self):
        for name in NO_NAMES:
            for games in (RING, []):
                for asked in (took, above):
                    with self.subTest(asked=asked, name=name, games=games), self.assertRaises(NoPlayer):
                        asked(games, name)

    def test_first_and_second_and_both(self):
        for name in NO_NAMES:
            for one, other in [(name, "ann"), ("ann", name), (name, name), (name, "zoe"), ("zoe", name)]:
                with self.subTest(one=one, other=other), self.assertRaises(NoPlayer):
                    way(RING, one, other)
                with self.subTest(one=one, other=other), self.assertRaises(NoPlayer):
                    way([], one, other)

    def test_ahead_of_no_way(self):
        with self.assertRaises(NoPlayer):
            way(ROW, "ann", "zoe")
        self.assertIsNone(way(ROW, "ann", "dan"))


class Verdict(unittest.TestCase):
    def test_some_by_hand(self):
        for text, found in [
                ("1 ann drew bob", ("one", ["ann", "bob"])),
                ("1 ann beat bob", ("none", ["ann"])),
                ("1 bob beat ann", ("none", ["bob"])),
                ("1 ann beat bob; 2 bob beat ann", ("one", ["ann", "bob"])),
                ("1 ann beat bob; 1 bob beat cid; 1 cid beat ann", ("one", ["ann", "bob", "cid"])),
                ("1 ann beat bob; 2 bob beat cid; 3 cid beat dan", ("none", ["ann"])),
                ("1 dan beat cid; 2 cid beat bob; 3 bob beat ann", ("none", ["bob", "cid", "dan"])),
                ("1 ann drew bob; 2 cid beat dan; 3 dan beat cid", ("loose", [["ann", "bob"], ["cid", "dan"]])),
                ("1 ann drew dan; 2 cid drew bob; 3 eve drew dan", ("loose", [["ann", "dan", "eve"], ["bob", "cid"]])),
                ("1 ann drew bob; 2 cid beat dan", ("none", ["cid"])),
                ("1 ann drew bob; 2 bob drew cid; 3 cid beat dan", ("none", ["ann", "bob", "cid"]))]:
            with self.subTest(text):
                self.assertEqual(verdict(read_book(text)), found)

    def test_without_games(self):
        self.assertEqual(verdict([]), ("loose", []))

    def test_the_first_such_player_in_order(self):
        # Both ann's and cid's sets would do, but ann comes first by name, wherever its game stands.
        games = read_book("1 cid beat dan; 2 ann beat bob")
        self.assertEqual(verdict(games), ("none", ["ann"]))
        games = read_book("1 ann drew bob; 2 ann beat dan; 3 bob beat cid; 4 cid beat bob; 5 dan drew eve; 6 dan beat zoe")
        self.assertEqual(verdict(games), ("none", ["ann", "bob", "cid"]))

    def test_the_first_player_may_have_met_only_those_above_it(self):
        games = read_book("1 bob beat ann; 2 bob beat cid; 3 zoe beat bob")
        self.assertEqual(verdict(games), ("none", ["bob", "zoe"]))

    def test_kinds(self):
        for games in (RING, ROW, APART, []):
            found = verdict(games)
            self.assertIs(type(found), tuple)
            self.assertEqual(len(found), 2)
            self.assertIs(type(found[1]), list)
            if found[0] == "loose":
                self.assertTrue(all(type(part) is list for part in found[1]))

    def test_small_books(self):
        seen = set()
        for games in three() + four():
            self.assertEqual(verdict(games), judged(games), games)
            seen.add(verdict(games)[0])
        self.assertEqual(seen, {"none", "one", "loose"})

    def test_games_turned_about_and_their_order_do_not_matter(self):
        for games in three()[::3]:
            self.assertEqual(verdict([turned(played) for played in games]), verdict(games))
            self.assertEqual(verdict(games[::-1]), verdict(games))

    def test_eight_players_in_four_parts(self):
        games = read_book("1 h drew a; 2 b drew g; 3 f drew c; 4 d drew e")
        self.assertEqual(verdict(games), ("loose", [["a", "h"], ["b", "g"], ["c", "f"], ["d", "e"]]))


class WhatTheVerdictSays(unittest.TestCase):
    def test_the_set_took_all_from_all_others_whom_it_met(self):
        for games in three() + four():
            found = verdict(games)
            if found[0] == "none":
                met = [halves for one, other, halves, side in both_ways(games)
                       if one in found[1] and other not in found[1]]
                self.assertTrue(met)
                self.assertEqual(set(met), {2}, games)

    def test_so_at_no_worths_the_sums_of_the_set_come_to_nothing(self):
        for games in four()[::5]:
            found = verdict(games)
            if found[0] != "none":
                continue
            names = players(games)
            for many in ([1] * 4, [1, 2, 3, 4], [1000, 100, 10, 1], [1, 10, 100, 1000]):
                worths = [(one, 1) for one in many[:len(names)]]
                told = dict(zip(names, sums(games, worths, (3, 2))))
                self.assertLess(sum(value(told[name]) for name in found[1]), 0)
                self.assertIs(fits(games, worths, (3, 2)), False)

    def test_books_with_worths_that_fit_have_the_verdict_one(self):
        for games, worths, edge in fitted():
            self.assertIs(fits(games, worths, edge), True)
            self.assertEqual(verdict(games), ("one", players(games)))

    def test_all_that_fit_are_the_same_but_for_the_measure(self):
        for games, worths, edge in fitted():
            if len(worths) > 3:
                continue
            for many in product(range(1, 9), repeat=len(worths)):
                same = len({one / value(worth) for one, worth in zip(many, worths)}) == 1
                self.assertIs(fits(games, [(one, 1) for one in many], edge), same, (games, many))

    def test_loose_parts_have_a_measure_each(self):
        games = read_book("1 ann drew bob; 2 cid beat dan; 3 cid beat dan; 4 dan beat cid")
        self.assertEqual(verdict(games), ("loose", parts_of(games)))
        for first, second in product([(1, 1), (3, 7), (50, 1)], repeat=2):
            self.assertIs(fits(games, [first, first, pair(2 * value(second)), second]), True)
        self.assertIs(fits(games, [(1, 1), (2, 1), (2, 1), (1, 1)]), False)


if __name__ == "__main__":
    unittest.main()
