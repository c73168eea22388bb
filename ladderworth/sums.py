"""Shares by worths, the sums of the players, and the weight of a book."""

from ladderworth.books import players, told_by
from ladderworth.errors import NoWorth
from ladderworth.ratios import fraction


def share(worth, other, side, edge):
    pair = odds(worth, other, side, edge)
    return fraction(pair[0], pair[0] + pair[1])


def odds(worth, other, side, edge):
    # Two whole numbers that stand to one another as both shares do; lowest terms would cost time at each step.
    mine = worth[0] * other[1]
    theirs = other[0] * worth[1]
    if side == 0 or edge is None:
        return (mine, theirs)
    if side == 1:
        return (mine * edge[0], theirs * edge[1])
    return (mine * edge[1], theirs * edge[0])


def sums(games, worths, edge=None):
    named = named_worths(games, worths, edge)
    unreduced = [own_sum(told_by(games, name), named[name], named, edge) for name in named]
    return [fraction(pair[0], pair[1]) for pair in unreduced]


def named_worths(games, worths, edge):
    names = players(games)
    if len(worths) != len(names):
        raise NoWorth("there is one worth for each player")
    if any([worth[0] <= 0 for worth in worths]):
        raise NoWorth("each worth is above 0")
    if edge is not None and edge[0] <= 0:
        raise NoWorth("the edge is above 0")
    return dict(zip(names, worths))


def own_sum(told, worth, named, edge):
    # The games are told by the player itself; the pair (top, bottom) is not in lowest terms, its bottom is above 0.
    top = 0
    bottom = 1
    halves = 0
    for played in told:
        pair = odds(worth, named[played[2]], played[4], edge)
        whole = pair[0] + pair[1]
        top = top * whole + pair[0] * bottom
        bottom = bottom * whole
        halves = halves + played[3]
    return (2 * top - halves * bottom, 2 * bottom)


def fits(games, worths, edge=None):
    return all([one == (0, 1) for one in sums(games, worths, edge)])


def weight(games, worths, edge=None):
    named = named_worths(games, worths, edge)
    top = 1
    bottom = 1
    for played in games:
        pair = odds(named[played[1]], named[played[2]], played[4], edge)
        whole = pair[0] + pair[1]
        # Each of the two half points gives the share of who won it.
        top = top * (pair[0] if played[3] > 0 else pair[1]) * (pair[0] if played[3] > 1 else pair[1])
        bottom = bottom * whole * whole
    return fraction(top, bottom)
