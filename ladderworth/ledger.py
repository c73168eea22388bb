"""The ledger: a book into which games are put and from which they are taken back, and its running worths."""

from ladderworth.above import check_player
from ladderworth.books import check_size, in_order
from ladderworth.errors import NoGame
from ladderworth.walks import running


class Ledger:
    def __init__(self, rule):
        # The rule's fields may be given other values later; here it stays as it was.
        self.rule = rule.twin()
        # By their numbers, which rise in the order in which the games were put in.
        self.kept = {}
        self.last = 0

    def put(self, played):
        check_size(list(self.kept.values()) + [played])
        self.last = self.last + 1
        self.kept[self.last] = played
        return (self.last, reached(self.kept, self.last))

    def take(self, number):
        if number not in self.kept:
            raise NoGame("no game in the book has this number")
        found = reached(self.kept, number)
        self.kept.pop(number)
        return found

    def games(self):
        return in_order(list(self.kept.values()))

    def worths(self):
        return running(self.rule, self.games())

    def worth(self, name):
        check_player(self.games(), name)
        return dict(self.worths())[name]


def reached(kept, number):
    names = list(kept[number][1:3])
    for played in behind(kept, number):
        if played[1] in names or played[2] in names:
            names.extend(played[1:3])
    return sorted(set(names))


def behind(kept, number):
    place = (kept[number][0], number)
    return in_order([kept[other] for other in kept if (kept[other][0], other) > place])
