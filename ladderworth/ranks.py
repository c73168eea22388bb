"""Rankings: places at told worths, and the places that are sure where only stretches are known."""

from ladderworth.ratios import plus, under
from ladderworth.stretches import beneath


def places(worths):
    return [places_of(worth, worths) for worth in worths]


def places_of(worth, worths):
    more = [other for other in worths if under(worth, other)]
    less = [other for other in worths if under(other, worth)]
    return (1 + len(more), len(worths) - len(less))


def ranking(stretches):
    return [rank_of(part, stretches) for part in stretches]


def rank_of(part, stretches):
    # No stretch is beneath itself, so the player is in neither list.
    surely_above = [at for at, other in enumerate(stretches) if beneath(part, other)]
    surely_below = [at for at, other in enumerate(stretches) if beneath(other, part)]
    return (1 + len(surely_above), len(stretches) - len(surely_below), sorted(surely_above + surely_below))


def best_case(stretches, at):
    return [high_of(part, stretches) if place == at else part[0] for place, part in enumerate(stretches)]


def worst_case(stretches, at):
    return [part[0] if place == at else high_of(part, stretches) for place, part in enumerate(stretches)]


def high_of(part, stretches):
    return beyond(stretches) if part[1] is None else part[1]


def beyond(stretches):
    greatest = stretches[0][0]
    for part in stretches:
        for end in part:
            if end is not None and under(greatest, end):
                greatest = end
    return plus(greatest, (1, 1))
