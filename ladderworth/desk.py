"""The desk: it is told rows of words, and answers each with a text."""

from ladderworth.above import verdict, way
from ladderworth.books import PARTING, players, show_book
from ladderworth.ends import ends
from ladderworth.errors import NoRow
from ladderworth.games import is_name, is_number, read_game
from ladderworth.groups import group_shares
from ladderworth.ledger import Ledger
from ladderworth.ranks import ranking
from ladderworth.rules import Rule
from ladderworth.texts import read_tree, show_fraction
from ladderworth.trees import tree_shares

STEP = 32
FIRST_WORTH = 1500
TABLE = ((0, (1, 2)), (60, (3, 5)), (160, (7, 10)), (280, (4, 5)), (460, (9, 10)))
LONGEST_NUMBER = 6


def put_game(desk, text):
    return str(desk.ledger.put(read_game(text))[0])


def tell_tree(desk, text):
    return show_pairs(tree_shares(read_tree(text), desk.told))


def tell_group(desk, text):
    return show_pairs(group_shares(text.split(" "), desk.told))


def take_game(desk, things):
    desk.ledger.take(things[0])
    return "ok"


def tell_book(desk, things):
    games = desk.ledger.games()
    return "none" if games == [] else show_book(games)


def tell_verdict(desk, things):
    found = verdict(desk.ledger.games())
    if found[0] == "none":
        return " ".join(["none"] + found[1])
    if found[0] == "one":
        return "one"
    parts = " / ".join([" ".join(part) for part in found[1]])
    return "loose" if parts == "" else f"loose {parts}"


def tell_way(desk, things):
    names = way(desk.ledger.games(), things[0], things[1])
    return "none" if names is None else " ".join(names)


def tell_ends(desk, things):
    games = desk.ledger.games()
    found = ends(games, things[0], things[1], things[2])
    return PARTING.join([show_stretch(name, part) for name, part in zip(players(games), found)])


def show_stretch(name, part):
    low = show_fraction(part[0])
    high = "-" if part[1] is None else show_fraction(part[1])
    return f"{name} {low} {high}"


def tell_rank(desk, things):
    games = desk.ledger.games()
    found = ranking(ends(games, things[0], things[1], things[2]))
    return PARTING.join([show_rank(name, row[0], row[1]) for name, row in zip(players(games), found)])


def show_rank(name, best, worst):
    return f"{name} {best} {worst}"


def tell_running(desk, things):
    worths = desk.ledger.worths()
    return "none" if worths == [] else show_pairs(worths)


def keep_worth(desk, things):
    if not is_name(things[0]):
        raise NoRow("a worth is told of a name")
    desk.told[things[0]] = things[1]
    return "ok"


def show_pairs(pairs):
    return PARTING.join([name + " " + show_fraction(one) for name, one in pairs])


# What stands behind these words and one blank is taken as a whole.
TEXT_ROWS = {"put": put_game, "tree": tell_tree, "group": tell_group}

# By the first word: who answers, and for each word behind it the least and the greatest number, or None for a name.
WORD_ROWS = {
    "take": (take_game, ((0, 999999),)),
    "book": (tell_book, ()),
    "verdict": (tell_verdict, ()),
    "way": (tell_way, (None, None)),
    "ends": (tell_ends, (None, (1, 1000), (0, 12))),
    "rank": (tell_rank, (None, (1, 1000), (0, 12))),
    "running": (tell_running, ()),
    "worth": (keep_worth, (None, (1, 999))),
}


class Desk:
    def __init__(self):
        self.ledger = Ledger(Rule(STEP, FIRST_WORTH, list(TABLE)))
        self.told = {}

    def say(self, row):
        if not isinstance(row, str):
            raise NoRow("a row is a text")
        head = row.partition(" ")
        if head[0] in TEXT_ROWS and head[1] == " ":
            return TEXT_ROWS[head[0]](self, head[2])
        return answer_words(self, row.split(" "))


def answer_words(desk, words):
    if words[0] not in WORD_ROWS:
        raise NoRow("no row has this first word, or there is nothing behind it")
    answer = WORD_ROWS[words[0]][0]
    bounds = WORD_ROWS[words[0]][1]
    if len(words) != 1 + len(bounds):
        raise NoRow("the row has too few or too many words")
    return answer(desk, [read_thing(word, pair) for word, pair in zip(words[1:], bounds)])


def read_thing(word, pair):
    if pair is None:
        return word
    if not is_number(word, LONGEST_NUMBER):
        raise NoRow("a number is written by one to six figures, without noughts ahead")
    if not pair[0] <= int(word) <= pair[1]:
        raise NoRow("a number is less or greater than the row takes")
    return int(word)
