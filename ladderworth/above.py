"""Who stands above whom in a book, and whether some worths fit it."""

from ladderworth.books import players, told_by
from ladderworth.errors import NoPlayer


def took(games, name):
    check_player(games, name)
    return takers(games, name)


def check_player(games, name):
    if name not in players(games):
        raise NoPlayer("nobody of this name played in the book")


def takers(games, name):
    return sorted(set([played[2] for played in told_by(games, name) if played[3] < 2]))


def above(games, name):
    check_player(games, name)
    return sorted(ways_from(games, name))


def way(games, one, other):
    check_player(games, one)
    check_player(games, other)
    return ways_from(games, one).get(other)


def ways_from(games, name):
    ways = {name: [name]}
    newest = [name]
    while newest != []:
        reached = []
        # Shorter ways go first, and of one length those first by names, so the first way found to a player stays.
        for last in newest:
            for taker in takers(games, last):
                if taker not in ways:
                    ways[taker] = ways[last] + [taker]
                    reached.append(taker)
        newest = reached
    return ways


def verdict(games):
    for name in players(games):
        those = above(games, name)
        if not all([played[2] in those for played in told_by(games, name)]):
            return ("none", those)
    parts = joined(games)
    if len(parts) == 1:
        return ("one", parts[0])
    return ("loose", parts)


def joined(games):
    # Asked only where all whom a player met are above it: so those above it are just those whom games join to it.
    parts = []
    for name in players(games):
        if not any([name in part for part in parts]):
            parts.append(above(games, name))
    return parts
