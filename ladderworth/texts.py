"""Fractions and trees as texts."""

from ladderworth.errors import NoTree
from ladderworth.games import LETTERS
from ladderworth.trees import leaves

# Brackets within one another: each pair more takes one name more, and a tree has eight at most.
DEEPEST = 7


def show_fraction(one):
    sign = "-" if one[0] < 0 else ""
    top = show_number(abs(one[0]))
    if one[1] == 1:
        return sign + top
    return sign + top + "/" + show_number(one[1])


def show_number(number):
    # Python doesn't write a number of some thousand figures at once, so pieces of sixty are written, from the end on.
    whole = 10 ** 60
    pieces = []
    while number >= whole:
        pieces.append(str(number % whole).zfill(60))
        number = number // whole
    return "".join([str(number)] + list(reversed(pieces)))


def read_tree(text):
    if not isinstance(text, str):
        raise NoTree("a tree is read from a text")
    found = read_part(text, 0, 0)
    if found[1] != len(text):
        raise NoTree("something stands behind the tree")
    leaves(found[0])
    return found[0]


def read_part(text, start, depth):
    # Tells the part that begins there, and the place behind it; its names are still to be checked.
    if text[start:start + 1] != "(":
        return read_word(text, start)
    if depth == DEEPEST:
        raise NoTree("brackets stand within one another at most seven deep")
    one = read_part(text, start + 1, depth + 1)
    check_sign(text, one[1], " ")
    other = read_part(text, one[1] + 1, depth + 1)
    check_sign(text, other[1], ")")
    return ((one[0], other[0]), other[1] + 1)


def read_word(text, start):
    end = start
    while end < len(text) and text[end] in LETTERS:
        end = end + 1
    return (text[start:end], end)


def check_sign(text, at, sign):
    if text[at:at + 1] != sign:
        raise NoTree("a tree is written as a name, or as (ONE OTHER) with two trees")


def show_tree(tree):
    leaves(tree)
    return show_part(tree)


def show_part(part):
    if isinstance(part, str):
        return part
    one = show_part(part[0])
    other = show_part(part[1])
    return f"({one} {other})"
