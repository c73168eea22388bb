"""The words of ../shared/DOC.md done plainly, with Python's own fractions and sets, and books to try them on."""

import re
from bisect import bisect_left, bisect_right
from fractions import Fraction
from itertools import combinations, permutations, product

from ladderworth.books import read_book

MOST = 100000

# Books whose worths are known, as (text, worths, edge).
FITTED = [
    ("1 ann drew bob", [(1, 1), (1, 1)], None),
    ("1 ann beat bob; 2 ann beat bob; 3 bob beat ann", [(2, 1), (1, 1)], None),
    ("1 ann beat bob; 2 ann drew bob", [(3, 1), (1, 1)], None),
    ("1 ann beat bob; 1 bob beat cid; 1 cid beat ann", [(1, 1), (1, 1), (1, 1)], None),
    ("1 ann beat bob; 2 ann beat bob; 3 ann lost bob; 4 bob beat cid; 5 bob beat cid; 6 bob beat cid; 7 bob lost cid",
     [(6, 1), (3, 1), (1, 1)], None),
    # The shares are 1/3, 2/5 and 3/4; a ring of wins is shifted, so that the single pairings don't fit, but the sums do.
    ("1 ann beat bob; 2 ann beat bob; 3 bob beat ann; 4 bob beat cid; 5 bob beat cid; 6 bob beat cid; 7 cid beat bob; "
     "8 cid beat bob; 9 cid beat ann; 10 cid beat ann; 11 cid beat ann; 12 cid beat ann",
     [(1, 1), (2, 1), (3, 1)], None),
    ("1 ann* beat bob; 2 ann* beat bob; 3 bob lost ann*; 4 bob beat ann*", [(2, 1), (1, 1)], (3, 2)),
    ("1 ann beat bob*; 2 ann beat bob*; 3 bob* beat ann", [(1, 1), (1, 1)], (1, 2)),
    ("1 ann* beat bob; 2 ann* beat bob; 3 bob beat ann*", [(2, 1), (1, 1)], None),
    ("1 ann* beat bob; 2 bob* beat ann; 3 bob* drew cid; 4 bob drew cid*", [(5, 7), (5, 7), (5, 7)], (9, 4)),
    ("1 ann beat dan; 2 dan beat ann; 3 dan beat bob; 4 dan beat bob; 5 bob beat dan; 6 cid drew dan; 7 cid beat dan",
     [(2, 3), (1, 3), (2, 1), (2, 3)], None),
]

PAIRINGS = [[], [2], [1], [0], [2, 0], [2, 2, 0], [0, 1], [2, 2]]


def books(names, pairings):
    """Every book in which each two of the names met by one of the pairings, lists of half points."""
    pairs = list(combinations(names, 2))
    for chosen in product(pairings, repeat=len(pairs)):
        games = []
        for (one, other), halves in zip(pairs, chosen):
            for won in halves:
                games.append(told((len(games), one, other, won, len(games) % 3 - 1), len(games) % 2 == 1))
        yield games


def told(played, about):
    day, one, other, halves, side = played
    return (day, other, one, 2 - halves, -side) if about else played


def three():
    return list(books(["ann", "bob", "cid"], PAIRINGS))


def four():
    return list(books(["ann", "bob", "cid", "dan"], [[], [2], [1], [0]]))


def fitted():
    return [(read_book(text), worths, edge) for text, worths, edge in FITTED]


def value(one):
    return Fraction(one[0], one[1])


def pair(one):
    return (one.numerator, one.denominator)


def names_of(games):
    return sorted({name for played in games for name in played[1:3]})


def both_ways(games):
    """Each game told by each of its players, as (player, other, halves, side)."""
    found = []
    for day, one, other, halves, side in games:
        found += [(one, other, halves, side), (other, one, 2 - halves, -side)]
    return found


def takers(games, name):
    return {one for one, other, halves, side in both_ways(games) if other == name and halves > 0}


def closure(games, name):
    found = {name}
    while True:
        more = found.union(*[takers(games, one) for one in found])
        if more == found:
            return sorted(found)
        found = more


def first_way(games, one, other):
    ways = [[one]] if one == other else []
    between = [name for name in names_of(games) if name not in (one, other)]
    for many in range(len(between) + 1):
        for middle in permutations(between, many):
            ways.append([one] + list(middle) + [other])
    right = [way for way in ways if all(late in takers(games, early) for early, late in zip(way, way[1:]))]
    return min(right, key=lambda way: (len(way), way), default=None)


def parts_of(games):
    parts = [{name} for name in names_of(games)]
    for played in games:
        joined = [part for part in parts if played[1] in part or played[2] in part]
        parts = [part for part in parts if part not in joined] + [set().union(*joined)]
    return sorted(sorted(part) for part in parts)


def judged(games):
    for name in names_of(games):
        met = {other for one, other, halves, side in both_ways(games) if one == name}
        if not met <= set(closure(games, name)):
            return ("none", closure(games, name))
    parts = parts_of(games)
    return ("one", parts[0]) if len(parts) == 1 else ("loose", parts)


def share_of(worth, other, side, edge):
    if side == 1:
        return edge * worth / (edge * worth + other)
    if side == -1:
        return worth / (worth + edge * other)
    return worth / (worth + other)


def edge_of(edge):
    return Fraction(1) if edge is None else value(edge)


def sum_of(games, worths, name, edge):
    whole = Fraction(0)
    for one, other, halves, side in both_ways(games):
        if one == name:
            whole += share_of(worths[one], worths[other], side, edge_of(edge)) - Fraction(halves, 2)
    return whole


def weight_of(games, worths, edge):
    worths = dict(zip(names_of(games), worths))
    whole = Fraction(1)
    for day, one, other, halves, side in games:
        share = share_of(worths[one], worths[other], side, edge_of(edge))
        whole *= {2: share * share, 1: share * (1 - share), 0: (1 - share) * (1 - share)}[halves]
    return whole


def sum_with(games, numbers, name, number, edge):
    worths = dict(zip(names_of(games), [Fraction(one) for one in numbers]))
    worths[name] = Fraction(number)
    return sum_of(games, worths, name, edge)


def raised_to(games, numbers, name, edge):
    below = bisect_left(range(1, MOST + 1), 0, key=lambda number: sum_with(games, numbers, name, number, edge))
    return min(below + 1, MOST)


def lowered_to(games, numbers, name, edge):
    return bisect_right(range(1, MOST + 1), 0, key=lambda number: sum_with(games, numbers, name, number, edge))


def row_of(games, anchor, scale, rounds, edge, upper):
    names = names_of(games)
    move = raised_to if upper else lowered_to
    numbers = [scale if name == anchor else 1 if upper else MOST for name in names]
    for turn in range(rounds):
        for at, name in enumerate(names):
            if name != anchor:
                numbers[at] = move(games, numbers, name, edge)
    return (numbers, is_settled(games, anchor, numbers, edge, upper))


def is_settled(games, anchor, numbers, edge, upper):
    for name, number in zip(names_of(games), numbers):
        if name != anchor and (upper or number != 0):
            found = sum_with(games, numbers, name, number, edge)
            if found < 0 if upper else found > 0:
                return False
    return True


# Tables as the tests hand them in: the one of a single row, a plain one, and one with shares of 1 and of four figures.
FLAT = [(0, (1, 2))]
PLAIN = [(0, (1, 2)), (60, (3, 5)), (160, (7, 10)), (280, (4, 5)), (460, (9, 10))]
STEEP = [(0, (1, 2)), (1, (1, 2)), (2, (5002, 9999)), (9, (2, 3)), (40, (9998, 9999)), (10 ** 6, (1, 1))]

# Days apart, days shared and days in a row; the games stand in another order than their days.
LONG = read_book(
    "9 ann* beat bob; 1 bob beat cid; 5 cid drew ann; 5 cid lost dan*; 5 dan beat cid; 30 ann lost dan; 2 bob drew eve; "
    "31 ann beat eve; 31 eve beat ann; 9 bob beat fay; 0 fay lost gus; 9999 gus drew hal; 32 hal beat ann; 6 cid beat ann; "
    "6 cid beat ann; 33 ann drew cid; 33 cid beat gus; 34 hal lost gus; 9999 hal beat ann; 12 dan lost bob*")

# Rules as (class, numbers behind the table).
KINDS = [("Rule", ()), ("Early", (40, 2)), ("Early", (7, 0)), ("Early", (0, 1)), ("Rested", (2, 3)), ("Rested", (0, 2)),
         ("Rested", (1, 0)), ("Capped", (5,)), ("Capped", (0,)), ("Capped", (10 ** 6,))]


def told_share(table, difference):
    if difference < 0:
        return 1 - told_share(table, -difference)
    return [value(share) for start, share in table if start <= difference][-1]


def size_of(kind, step, more, day, own_days, others_days):
    """By the days of the games that both played ahead of a game on this day."""
    if kind == "Early":
        early, many = more
        return early if len(own_days) < many or len(others_days) < many else step
    if kind == "Rested":
        pause, times = more
        rested = [days for days in (own_days, others_days) if days and day - max(days) > pause]
        return step * times if rested else step
    return step


def bit_of(kind, step, table, more, difference, halves, day, own_days, others_days):
    size = size_of(kind, step, more, day, own_days, others_days)
    bit = size * (Fraction(halves, 2) - told_share(table, difference))
    return max(-more[0], min(more[0], bit)) if kind == "Capped" else bit


def ordered(games):
    return [games[at] for day, at in sorted((played[0], at) for at, played in enumerate(games))]


def walked(kind, step, first, table, more, games):
    """The trail and the running worths."""
    steps = []
    worths = {name: Fraction(first) for name in names_of(games)}
    days = {name: [] for name in names_of(games)}
    for day, one, other, halves, side in ordered(games):
        before, other_before = worths[one], worths[other]
        bit = bit_of(kind, step, table, more, before - other_before, halves, day, days[one], days[other])
        steps.append(((day, one, other, halves, side), pair(before), pair(other_before), pair(Fraction(bit))))
        worths[one] += bit
        worths[other] -= bit
        days[one].append(day)
        days[other].append(day)
    return (steps, [(name, pair(worths[name])) for name in names_of(games)])


def reached_from(games, at):
    """Whom the game at this place of a book, the games as they were put in, reaches."""
    places = sorted(range(len(games)), key=lambda place: (games[place][0], place))
    found = set(games[at][1:3])
    for place in places[places.index(at) + 1:]:
        both = set(games[place][1:3])
        if both & found:
            found |= both
    return sorted(found)


def shapes(names):
    """Every tree with these names from left to right."""
    if len(names) == 1:
        return [names[0]]
    return [(one, other) for at in range(1, len(names))
            for one in shapes(names[:at]) for other in shapes(names[at:])]


def outcomes(tree, worths):
    """Every way how the games of a tree may go, as (winner, how likely)."""
    if isinstance(tree, str):
        return [(tree, Fraction(1))]
    found = []
    for one, likely in outcomes(tree[0], worths):
        for other, likely_too in outcomes(tree[1], worths):
            share = Fraction(worths[one], worths[one] + worths[other])
            found += [(one, likely * likely_too * share), (other, likely * likely_too * (1 - share))]
    return found


def foretold(tree, worths):
    whole = {}
    for winner, likely in outcomes(tree, worths):
        whole[winner] = whole.get(winner, 0) + likely
    return [(name, pair(whole[name])) for name in sorted(whole)]


def group_foretold(names, worths):
    pairs = list(combinations(names, 2))
    whole = {name: Fraction(0) for name in names}
    for winners in product(*pairs):
        likely = Fraction(1)
        for (one, other), winner in zip(pairs, winners):
            likely *= Fraction(worths[winner], worths[one] + worths[other])
        wins = {name: winners.count(name) for name in names}
        first = [name for name in names if wins[name] == max(wins.values())]
        for name in first:
            whole[name] += likely / len(first)
    return [(name, pair(whole[name])) for name in sorted(whole)]


def places_at(worths):
    """By the row of all worths from the greatest on: where such a worth is there first, and where last."""
    row = sorted([value(worth) for worth in worths], reverse=True)
    return [(row.index(value(worth)) + 1, len(row) - row[::-1].index(value(worth))) for worth in worths]


def ranked(stretches):
    found = []
    for at, (low, high) in enumerate(stretches):
        over = [place for place, part in enumerate(stretches) if high is not None and value(part[0]) > value(high)]
        under = [place for place, part in enumerate(stretches) if part[1] is not None and value(part[1]) < value(low)]
        found.append((1 + len(over), len(stretches) - len(under), sorted(over + under)))
    return found


def read_plain_tree(text):
    """The brackets are rewritten from within, each pair as a number in `<` and `>`; None where the text is no tree."""
    if not isinstance(text, str) or not re.fullmatch(r"[a-z() ]*", text):
        return None
    trees = {}
    while found := re.search(r"\(([a-z]{1,8}|<[0-9]+>) ([a-z]{1,8}|<[0-9]+>)\)", text):
        mark = f"<{len(trees)}>"
        trees[mark] = tuple(trees.get(word, word) for word in found.groups())
        text = text[:found.start()] + mark + text[found.end():]
    if text not in trees and not re.fullmatch("[a-z]{1,8}", text):
        return None
    tree = trees.get(text, text)
    names = re.findall("[a-z]+", str(tree))
    return tree if len(names) == len(set(names)) <= 8 else None
