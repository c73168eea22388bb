"""Games: tuples (day, one, other, halves, side), and their texts."""

from ladderworth.errors import NoGame
from ladderworth.ratios import is_whole

LETTERS = "abcdefghijklmnopqrstuvwxyz"
FIGURES = "0123456789"
LAST_DAY = 9999
LONGEST_NAME = 8
LONGEST_DAY = 4

# A word's place is how many half points the one won.
WORDS = ("lost", "drew", "beat")


def game(day, one, other, halves, side):
    if not is_between(day, 0, LAST_DAY):
        raise NoGame("the day of a game is a whole number from 0 to 9999")
    if not is_name(one) or not is_name(other):
        raise NoGame("a name is one to eight small letters")
    if one == other:
        raise NoGame("nobody plays against itself")
    if not is_between(halves, 0, 2):
        raise NoGame("the half points of a game are 0, 1 or 2")
    if not is_between(side, -1, 1):
        raise NoGame("the side of a game is 1, 0 or -1")
    return (day, one, other, halves, side)


def is_between(thing, least, most):
    return is_whole(thing) and least <= thing <= most


def is_name(thing):
    if not isinstance(thing, str) or not 1 <= len(thing) <= LONGEST_NAME:
        return False
    return all([sign in LETTERS for sign in thing])


def turned(played):
    return (played[0], played[2], played[1], 2 - played[3], -played[4])


def read_game(text):
    if not isinstance(text, str):
        raise NoGame("a game is read from a text")
    words = text.split(" ")
    if len(words) != 4 or not is_number(words[0], LONGEST_DAY) or words[2] not in WORDS:
        raise NoGame("a game is written as DAY ONE WORD OTHER")
    if is_starred(words[1]) and is_starred(words[3]):
        raise NoGame("one player at most had the side")
    side = side_of(words[1], words[3])
    return game(int(words[0]), unstarred(words[1]), unstarred(words[3]), WORDS.index(words[2]), side)


def is_number(word, longest):
    if word == "0":
        return True
    if not 1 <= len(word) <= longest or word[0] == "0":
        return False
    return all([sign in FIGURES for sign in word])


def is_starred(word):
    return word.endswith("*")


def unstarred(word):
    # One star alone: a second one stays, and is then no letter of a name.
    return word[:-1] if is_starred(word) else word


def side_of(one, other):
    if is_starred(one):
        return 1
    return -1 if is_starred(other) else 0


def show_game(played):
    day = played[0]
    one = starred(played[1], played[4] == 1)
    word = WORDS[played[3]]
    other = starred(played[2], played[4] == -1)
    return f"{day} {one} {word} {other}"


def starred(name, had_side):
    return name + "*" if had_side else name
