import unittest
from itertools import product
from string import ascii_lowercase

from ladderworth.errors import NoGame
from ladderworth.games import game, read_game, show_game, turned

DAYS = [0, 1, 9, 10, 100, 1000, 9999]
NAMES = [("ann", "bob"), ("a", "b"), ("abcdefgh", "stuvwxyz"), ("z", "zzzzzzzz"), ("beat", "drew"), ("lost", "beat"),
         ("drew", "lost"), ("bob", "bobby")]
GAMES = [(day, one, other, halves, side)
         for day, (one, other), halves, side in product(DAYS, NAMES, (0, 1, 2), (-1, 0, 1))]
RIGHT = (12, "ann", "bob", 2, -1)
NO_NAMES = ["", "abcdefghi", "Ann", "ANN", "anN", "ann1", "1", "an n", " ann", "ann ", " ", "ann*", "*", "an-n", "an_n",
            "an.n", "ann\n", "\n", "`", "{", "@", "[", "b\u00e4r", "\u0431", "\u00aa", "a" * 4000]
NO_KINDS = [True, False, None, [], ["ann"], [1], (), (1,), {}, {"ann": 1}, 1.0, b"ann", object()]
NO_DAYS = [-1, 10000, -9999, 10 ** 60, -10 ** 60, "12", "0", ""]
NO_HALVES = [-1, 3, 10 ** 60, "2", "beat", ""]
NO_SIDES = [-2, 2, 10 ** 60, "1", "*", ""]


class Made(unittest.TestCase):
    def test_what_is_right(self):
        for things in GAMES:
            with self.subTest(things):
                self.assertEqual(game(*things), things)
                self.assertIs(type(game(*things)), tuple)

    def test_every_small_letter(self):
        for letter in ascii_lowercase:
            self.assertEqual(game(1, letter, "ann", 1, 0), (1, letter, "ann", 1, 0))
            self.assertEqual(game(1, "ann", letter * 8, 1, 0), (1, "ann", letter * 8, 1, 0))

    def refused_at(self, at, wrongs):
        for wrong in wrongs:
            things = list(RIGHT)
            things[at] = wrong
            with self.subTest(things), self.assertRaises(NoGame):
                game(*things)

    def test_no_day(self):
        self.refused_at(0, NO_DAYS + NO_KINDS)

    def test_no_name_in_the_ones_place(self):
        self.refused_at(1, NO_NAMES + NO_KINDS + [0, 1])

    def test_no_name_in_the_others_place(self):
        self.refused_at(2, NO_NAMES + NO_KINDS + [0, 1])

    def test_no_halves(self):
        self.refused_at(3, NO_HALVES + NO_KINDS)

    def test_no_side(self):
        self.refused_at(4, NO_SIDES + NO_KINDS)

    def test_every_other_sign_in_a_name(self):
        for sign in map(chr, range(32, 127)):
            if sign not in ascii_lowercase:
                with self.subTest(sign), self.assertRaises(NoGame):
                    game(1, "an" + sign, "bob", 1, 0)
                with self.subTest(sign), self.assertRaises(NoGame):
                    game(1, "bob", sign, 1, 0)

    def test_the_same_name_twice(self):
        for name in ("a", "ann", "abcdefgh", "beat"):
            for halves, side in product((0, 1, 2), (-1, 0, 1)):
                with self.subTest(name), self.assertRaises(NoGame):
                    game(3, name, name, halves, side)

    def test_the_same_wrong_thing_in_all_places(self):
        for thing in NO_KINDS + [0, 1, "ann", ""]:
            with self.subTest(thing), self.assertRaises(NoGame):
                game(thing, thing, thing, thing, thing)

    def test_what_is_handed_in_is_not_changed(self):
        thing = ["ann"]
        with self.assertRaises(NoGame):
            game(thing, thing, thing, thing, thing)
        self.assertEqual(thing, ["ann"])

    def test_behind_a_refusal_what_is_right_is_made(self):
        with self.assertRaises(NoGame):
            game(12, "ann", "ann", 2, -1)
        self.assertEqual(game(*RIGHT), RIGHT)


class Turned(unittest.TestCase):
    def test_some_by_hand(self):
        self.assertEqual(turned((12, "ann", "bob", 2, -1)), (12, "bob", "ann", 0, 1))
        self.assertEqual(turned((0, "ann", "bob", 1, 0)), (0, "bob", "ann", 1, 0))
        self.assertEqual(turned((9999, "bob", "ann", 0, 1)), (9999, "ann", "bob", 2, -1))

    def test_it_is_a_game_and_twice_the_game_itself(self):
        for played in GAMES:
            with self.subTest(played):
                self.assertEqual(game(*turned(played)), turned(played))
                self.assertNotEqual(turned(played), played)
                self.assertEqual(turned(turned(played)), played)
                self.assertIs(type(turned(played)), tuple)


class Written(unittest.TestCase):
    BY_HAND = [
        ("12 ann beat bob*", (12, "ann", "bob", 2, -1)),
        ("12 ann* beat bob", (12, "ann", "bob", 2, 1)),
        ("12 ann beat bob", (12, "ann", "bob", 2, 0)),
        ("12 ann drew bob*", (12, "ann", "bob", 1, -1)),
        ("12 ann* drew bob", (12, "ann", "bob", 1, 1)),
        ("12 ann drew bob", (12, "ann", "bob", 1, 0)),
        ("12 ann lost bob*", (12, "ann", "bob", 0, -1)),
        ("12 ann* lost bob", (12, "ann", "bob", 0, 1)),
        ("12 ann lost bob", (12, "ann", "bob", 0, 0)),
        ("0 a beat b", (0, "a", "b", 2, 0)),
        ("9999 abcdefgh beat stuvwxyz*", (9999, "abcdefgh", "stuvwxyz", 2, -1)),
        ("5 beat beat lost", (5, "beat", "lost", 2, 0)),
        ("5 drew* drew beat", (5, "drew", "beat", 1, 1)),
        ("5 lost lost drew*", (5, "lost", "drew", 0, -1)),
        ("1000 ann beat bob", (1000, "ann", "bob", 2, 0)),
        ("10 ann beat bob", (10, "ann", "bob", 2, 0)),
    ]

    def test_read(self):
        for text, played in self.BY_HAND:
            with self.subTest(text):
                self.assertEqual(read_game(text), played)
                self.assertIs(type(read_game(text)), tuple)
                self.assertIs(type(read_game(text)[0]), int)

    def test_shown(self):
        for text, played in self.BY_HAND:
            with self.subTest(text):
                self.assertEqual(show_game(played), text)

    def test_what_is_shown_is_read_to_the_same(self):
        for played in GAMES:
            with self.subTest(played):
                self.assertEqual(read_game(show_game(played)), played)


class NoText(unittest.TestCase):
    def refused(self, texts):
        for text in texts:
            with self.subTest(text), self.assertRaises(NoGame):
                read_game(text)

    def test_days(self):
        self.refused([day + " ann beat bob" for day in [
            "00", "01", "012", "0012", "000", "0000", "00000", "10000", "99999", "12345", "00012", "-1", "-0", "+1", "1.0",
            "1_0", "0x1", "1e1", "", "x", "1x", "x1", "twelve", "12*", "*", "\u0663", "\u00b2", "\t1", "1\n", "9" * 3900]])

    def test_stars(self):
        self.refused([
            "12 ann* beat bob*", "12 ann** beat bob", "12 ann beat bob**", "12 *ann beat bob", "12 ann beat *bob",
            "12 a*n beat bob", "12 ann beat* bob", "12 ann *beat bob", "12 ann * beat bob", "12 ann beat bob *",
            "12* ann beat bob", "12 * beat bob", "12 ann beat *", "12 ** beat bob", "12 ann* beat bob**",
            "*12 ann beat bob", "12 ann*** beat bob"])

    def test_blanks(self):
        words = ["12", "ann", "beat", "bob"]
        for at in range(5):
            wide = words[:at] + [""] + words[at:]
            self.refused([" ".join(wide), " ".join(wide[:at] + [""] + wide[at:])])
        for at in range(3):
            self.refused([" ".join(words[:at] + [words[at] + words[at + 1]] + words[at + 2:])])
        self.refused(["", " ", "   ", "12annbeatbob", "12\tann\tbeat\tbob", "12 ann beat\tbob", "12 ann beat bob\n",
                      "\n12 ann beat bob", "12\nann\nbeat\nbob", "12 ann\u00a0beat bob"])

    def test_too_few_and_too_many_words(self):
        self.refused(["12", "12 ann", "12 ann beat", "ann beat bob", "12 ann bob", "12 beat bob", "12 ann beat bob cid",
                      "12 ann beat bob;", "12 ann beat bob; 13 ann beat bob", "12 12 ann beat bob", " " * 4000])

    def test_names(self):
        self.refused(["12 " + name + " beat bob" for name in NO_NAMES if name != "ann*"])
        self.refused(["12 bob beat " + name for name in NO_NAMES if name != "ann*"])
        self.refused(["12 " + name + "* beat bob" for name in NO_NAMES])
        self.refused(["12 bob beat " + name + "*" for name in NO_NAMES])

    def test_alike_names(self):
        self.refused(["12 ann beat ann", "12 ann* drew ann", "12 ann lost ann*", "0 a drew a", "12 beat beat beat"])

    def test_words(self):
        self.refused(["12 ann " + word + " bob" for word in [
            "won", "Beat", "BEAT", "beats", "bea", "beat.", "draw", "drawn", "loses", "", "lost*", "2", "0", "los", "t",
            "lost,drew", "bob"]])

    def test_every_other_sign(self):
        for sign in map(chr, range(32, 127)):
            if sign not in ascii_lowercase:
                self.refused(["12 a" + sign + "n beat bob", "12 ann beat " + sign + "bob", "12 ann be" + sign + "at bob"])
            if not sign.isdigit():
                self.refused(["1" + sign + "2 ann beat bob", sign + " ann beat bob"])

    def test_no_text_at_all(self):
        self.refused(NO_KINDS + [0, 12, ["12", "ann", "beat", "bob"], ["12 ann beat bob"], RIGHT, b"12 ann beat bob",
                                 {"12 ann beat bob": 1}])

    def test_behind_a_refusal_what_is_right_is_read(self):
        for wrong in ("12 ann beat ann", None):
            with self.assertRaises(NoGame):
                read_game(wrong)
            self.assertEqual(read_game("12 ann beat bob*"), RIGHT)


if __name__ == "__main__":
    unittest.main()
