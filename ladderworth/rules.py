"""Tables of shares by difference, and the rules by which a game moves running worths."""

from ladderworth.errors import NoTable
from ladderworth.games import is_between
from ladderworth.ratios import fraction, minus, under

MOST_ROWS = 10
LAST_FROM = 1000000
MOST_PART = 9999
FIRST_ROW = (0, (1, 2))


def table_of(rows):
    if not isinstance(rows, list) or not 1 <= len(rows) <= MOST_ROWS:
        raise NoTable("a table is a list of one to ten rows")
    if not all([is_row(row) for row in rows]):
        raise NoTable("a row is a whole number from 0 to a million and a share from 0 to 1 of at most four figures")
    if rows[0] != FIRST_ROW:
        raise NoTable("the first row of a table tells 1/2 from 0 on")
    if not all([goes_on(row, later) for row, later in zip(rows, rows[1:])]):
        raise NoTable("each row starts behind the one ahead of it, with a share no less")
    return list(rows)


def is_row(thing):
    return is_pair(thing) and is_between(thing[0], 0, LAST_FROM) and is_share(thing[1])


def is_pair(thing):
    return isinstance(thing, tuple) and len(thing) == 2


def is_share(thing):
    if not is_pair(thing) or not is_between(thing[1], 1, MOST_PART) or not is_between(thing[0], 0, thing[1]):
        return False
    return fraction(thing[0], thing[1]) == thing


def goes_on(row, later):
    return row[0] < later[0] and not under(later[1], row[1])


def share_by(table, difference):
    if difference[0] < 0:
        return minus((1, 1), share_by(table, (-difference[0], difference[1])))
    begun = [row for row in table if not under(difference, (row[0], 1))]
    return begun[-1][1]


class Rule:
    def __init__(self, step, first, table):
        self.step = step
        self.first = first
        self.table = table_of(table)

    def size(self, played, rest):
        return self.step

    def bit(self, difference, halves, played, rest):
        return uncut_bit(self.size(played, rest), share_by(self.table, difference), halves)

    def twin(self):
        return Rule(self.step, self.first, self.table)


class Early(Rule):
    def __init__(self, step, first, table, early, many):
        Rule.__init__(self, step, first, table)
        self.early = early
        self.many = many

    def size(self, played, rest):
        return self.early if played < self.many else self.step

    def twin(self):
        return Early(self.step, self.first, self.table, self.early, self.many)


class Rested(Rule):
    def __init__(self, step, first, table, pause, times):
        Rule.__init__(self, step, first, table)
        self.pause = pause
        self.times = times

    def size(self, played, rest):
        return self.step * self.times if rest > self.pause else self.step

    def twin(self):
        return Rested(self.step, self.first, self.table, self.pause, self.times)


class Capped(Rule):
    def __init__(self, step, first, table, cap):
        Rule.__init__(self, step, first, table)
        self.cap = cap

    def bit(self, difference, halves, played, rest):
        return cut(uncut_bit(self.size(played, rest), share_by(self.table, difference), halves), self.cap)

    def twin(self):
        return Capped(self.step, self.first, self.table, self.cap)


def uncut_bit(size, share, halves):
    # The halves are taken over 2, the share over its own bottom; both are put over twice that bottom.
    return fraction(size * (halves * share[1] - 2 * share[0]), 2 * share[1])


def cut(one, cap):
    if under((cap, 1), one):
        return (cap, 1)
    return (-cap, 1) if under(one, (-cap, 1)) else one
