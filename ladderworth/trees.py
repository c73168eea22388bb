"""Trees: names, or tuples of two trees whose winners meet; how likely each name is to win the whole."""

from ladderworth.errors import NoPlayer, NoTree
from ladderworth.games import is_name
from ladderworth.ratios import plus, times
from ladderworth.sums import share

MOST_NAMES = 8


def leaves(tree):
    names = []
    ahead = [tree]
    # The walk ends at the first name too many, so a thing that holds one part in many places is refused soon.
    while ahead != []:
        part = ahead.pop()
        if isinstance(part, tuple) and len(part) == 2:
            ahead.extend([part[1], part[0]])
        elif is_name(part) and part not in names and len(names) < MOST_NAMES:
            names.append(part)
        else:
            raise NoTree("a tree is a name, or a tuple of two trees, of eight names at most, none of them twice")
    return names


def tree_shares(tree, worths):
    check_worths(leaves(tree), worths)
    shares = shares_of(tree, worths)
    return [(name, shares[name]) for name in sorted(shares)]


def check_worths(names, worths):
    for name in names:
        if name not in worths:
            raise NoPlayer("nobody of this name has a worth")


def shares_of(tree, worths):
    if isinstance(tree, str):
        return {tree: (1, 1)}
    left = shares_of(tree[0], worths)
    right = shares_of(tree[1], worths)
    shares = passed(left, right, worths)
    shares.update(passed(right, left, worths))
    return shares


def passed(own, others, worths):
    return dict([(name, times(own[name], win_over(name, others, worths))) for name in own])


def win_over(name, others, worths):
    whole = (0, 1)
    for other in others:
        whole = plus(whole, times(others[other], game_share(name, other, worths)))
    return whole


def game_share(one, other, worths):
    return share((worths[one], 1), (worths[other], 1), 0, None)
