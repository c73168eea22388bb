"""Groups: each two of one to four names meet once; what of the first place each has."""

from ladderworth.errors import NoTree
from ladderworth.games import is_name
from ladderworth.ratios import minus, over, plus, times
from ladderworth.trees import check_worths, game_share

MOST_IN_GROUP = 4


def group_shares(names, worths):
    check_group(names)
    check_worths(names, worths)
    ways = ways_to_go(names, worths)
    return [(name, first_place(name, names, ways)) for name in sorted(names)]


def check_group(names):
    if not isinstance(names, list) or not 1 <= len(names) <= MOST_IN_GROUP:
        raise NoTree("a group is a list of one to four names")
    if not all([is_name(name) for name in names]):
        raise NoTree("a name is one to eight small letters")
    if len(set(names)) != len(names):
        raise NoTree("no name is twice in a group")


def ways_to_go(names, worths):
    # A way is told as the winners of its games, and how likely it is.
    ways = [([], (1, 1))]
    for one, other in meetings(names):
        mine = game_share(one, other, worths)
        theirs = minus((1, 1), mine)
        ways = [gone_on(way, one, mine) for way in ways] + [gone_on(way, other, theirs) for way in ways]
    return ways


def meetings(names):
    pairs = []
    for at, one in enumerate(names):
        pairs.extend([(one, other) for other in names[at + 1:]])
    return pairs


def gone_on(way, winner, likely):
    return (way[0] + [winner], times(way[1], likely))


def first_place(name, names, ways):
    whole = (0, 1)
    for winners, likely in ways:
        leading = leaders(names, winners)
        if name in leading:
            whole = plus(whole, over(likely, (len(leading), 1)))
    return whole


def leaders(names, winners):
    most = max([winners.count(name) for name in names])
    return [name for name in names if winners.count(name) == most]
