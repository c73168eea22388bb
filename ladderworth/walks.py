"""Walks by a rule through a book: the trail, and the running worths behind it."""

from ladderworth.books import in_order
from ladderworth.ratios import minus, plus


def trail(rule, games):
    steps = []
    worths = {}
    days = {}
    for played in in_order(games):
        step = next_step(rule, worths, days, played)
        steps.append(step)
        move(worths, step)
        for name in played[1:3]:
            days[name] = days.get(name, []) + [played[0]]
    return steps


def next_step(rule, worths, days, played):
    before = worths.get(played[1], (rule.first, 1))
    other_before = worths.get(played[2], (rule.first, 1))
    own = days.get(played[1], [])
    others = days.get(played[2], [])
    fewest = min(len(own), len(others))
    longest = max(rest_behind(own, played[0]), rest_behind(others, played[0]))
    return (played, before, other_before, rule.bit(minus(before, other_before), played[3], fewest, longest))


def rest_behind(days, day):
    return 0 if days == [] else day - days[-1]


def move(worths, step):
    worths[step[0][1]] = plus(step[1], step[3])
    worths[step[0][2]] = minus(step[2], step[3])


def running(rule, games):
    worths = {}
    for step in trail(rule, games):
        move(worths, step)
    return [(name, worths[name]) for name in sorted(worths)]
