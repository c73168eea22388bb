"""Two rows of whole numbers, one above the worths that fit a book, one below."""

from ladderworth.above import check_player, verdict
from ladderworth.books import players, told_by
from ladderworth.errors import NoFit
from ladderworth.ratios import fraction
from ladderworth.stretches import stretch
from ladderworth.sums import own_sum

MOST = 100000


def raised(games, numbers, name, edge=None):
    return first_number(games, numbers, name, edge, 0, MOST)


def lowered(games, numbers, name, edge=None):
    # The greatest number whose sum isn't above 0 stands one ahead of the least whose sum is: tops are whole.
    return first_number(games, numbers, name, edge, 1, MOST + 1) - 1


def first_number(games, numbers, name, edge, least_top, last):
    told = told_by(games, name)
    named = named_numbers(games, numbers)
    # The sum never falls where the number grows, so the range is halved; its last number is told untried.
    low = 1
    high = last
    while low < high:
        middle = (low + high) // 2
        if own_sum(told, (middle, 1), named, edge)[0] < least_top:
            low = middle + 1
        else:
            high = middle
    return low


def named_numbers(games, numbers):
    return dict(zip(players(games), [(number, 1) for number in numbers]))


def uppers(games, anchor, scale, rounds, edge=None):
    check_fit(games, anchor)
    numbers = after_rounds(games, anchor, first_numbers(games, anchor, scale, 1), rounds, edge, raised)
    return (numbers, all([top >= 0 for top in tops_but(games, anchor, numbers, edge)]))


def lowers(games, anchor, scale, rounds, edge=None):
    check_fit(games, anchor)
    numbers = after_rounds(games, anchor, first_numbers(games, anchor, scale, MOST), rounds, edge, lowered)
    return (numbers, all([top <= 0 for top in tops_but(games, anchor, numbers, edge)]))


def check_fit(games, anchor):
    found = verdict(games)
    if found[0] != "one":
        raise NoFit(found)
    check_player(games, anchor)


def first_numbers(games, anchor, scale, others):
    return [scale if name == anchor else others for name in players(games)]


def after_rounds(games, anchor, first, rounds, edge, moved):
    numbers = list(first)
    for turn in range(rounds):
        for at, name in enumerate(players(games)):
            if name != anchor:
                numbers[at] = moved(games, numbers, name, edge)
    return numbers


def tops_but(games, anchor, numbers, edge):
    # A top has the sign of its sum. Uppers are never 0, so leaving out numbers of 0 changes nothing for them.
    named = named_numbers(games, numbers)
    asked = [name for name in named if name != anchor and named[name] != (0, 1)]
    return [own_sum(told_by(games, name), named[name], named, edge)[0] for name in asked]


def ends(games, anchor, scale, rounds, edge=None):
    lower = lowers(games, anchor, scale, rounds, edge)
    upper = uppers(games, anchor, scale, rounds, edge)
    lows = [fraction(number, scale) if lower[1] else (0, 1) for number in lower[0]]
    highs = [fraction(number, scale) if upper[1] else None for number in upper[0]]
    return [stretch(low, high) for low, high in zip(lows, highs)]
