"""The desk by the words of ../shared/DOC.md, over tests/reference.py alone; a refusal is told as its class's name."""

import re

from tests.reference import (PLAIN, first_way, foretold, group_foretold, judged, names_of, ordered, pair, ranked,
                             read_plain_tree, row_of, value, walked)

WORD = "[^ ]*"
NUMBER = "0|[1-9][0-9]{0,5}"
GAME = r"(0|[1-9][0-9]{0,3}) ([a-z]{1,8})(\*?) (beat|drew|lost) ([a-z]{1,8})(\*?)"


def read_plain_game(text):
    found = re.fullmatch(GAME, text)
    if not found or found[2] == found[5] or found[3] and found[6]:
        return None
    return (int(found[1]), found[2], found[5], {"beat": 2, "drew": 1, "lost": 0}[found[4]], len(found[3]) - len(found[6]))


def write_game(played):
    day, one, other, halves, side = played
    word = {2: "beat", 1: "drew", 0: "lost"}[halves]
    return f"{day} {one}{'*' if side == 1 else ''} {word} {other}{'*' if side == -1 else ''}"


def write(one):
    return str(value(one))


def pairs(rows):
    return "; ".join(f"{name} {write(one)}" for name, one in rows)


class PlainDesk:
    def __init__(self):
        self.kept = []
        self.last = 0
        self.worths = {}

    def games(self):
        return ordered([played for number, played in self.kept])

    def say(self, row):
        if not isinstance(row, str):
            return "NoRow"
        for pattern, answer in [
                (r"put (.*)", self.put), (rf"take ({NUMBER})", self.take), ("book", self.book), ("verdict", self.verdict),
                (rf"way ({WORD}) ({WORD})", self.way), (rf"(ends|rank) ({WORD}) ({NUMBER}) ({NUMBER})", self.ends),
                ("running", self.running), (rf"worth ([a-z]{{1,8}}) ({NUMBER})", self.worth), (r"tree (.*)", self.tree),
                (r"group (.*)", self.group)]:
            found = re.fullmatch(pattern, row)
            if found:
                return answer(*found.groups())
        return "NoRow"

    def put(self, text):
        played = read_plain_game(text)
        if played is None:
            return "NoGame"
        games = self.games() + [played]
        if len(games) > 40 or len(names_of(games)) > 8:
            return "NoBook"
        self.last += 1
        self.kept.append((self.last, played))
        return str(self.last)

    def take(self, word):
        left = [(number, played) for number, played in self.kept if number != int(word)]
        if len(left) == len(self.kept):
            return "NoGame"
        self.kept = left
        return "ok"

    def book(self):
        return "; ".join(write_game(played) for played in self.games()) or "none"

    def verdict(self):
        word, things = judged(self.games())
        if word == "none":
            return " ".join(["none"] + things)
        return "one" if word == "one" else ("loose " + " / ".join(" ".join(part) for part in things)).strip()

    def way(self, one, other):
        if not {one, other} <= set(names_of(self.games())):
            return "NoPlayer"
        return " ".join(first_way(self.games(), one, other) or ["none"])

    def ends(self, word, anchor, scale, rounds):
        games = self.games()
        if not (1 <= int(scale) <= 1000 and int(rounds) <= 12):
            return "NoRow"
        if judged(games)[0] != "one":
            return "NoFit"
        if anchor not in names_of(games):
            return "NoPlayer"
        parts = plain_ends(games, anchor, int(scale), int(rounds))
        if word == "ends":
            return "; ".join(f"{name} {write(low)} {'-' if high is None else write(high)}"
                             for name, (low, high) in zip(names_of(games), parts))
        return "; ".join(f"{name} {best} {worst}" for name, (best, worst, apart) in zip(names_of(games), ranked(parts)))

    def running(self):
        return pairs(walked("Rule", 32, 1500, PLAIN, (), self.games())[1]) or "none"

    def worth(self, name, word):
        if not 1 <= int(word) <= 999:
            return "NoRow"
        self.worths[name] = int(word)
        return "ok"

    def tree(self, text):
        tree = read_plain_tree(text)
        if tree is None:
            return "NoTree"
        if not set(re.findall("[a-z]+", text)) <= set(self.worths):
            return "NoPlayer"
        return pairs(foretold(tree, self.worths))

    def group(self, text):
        names = text.split(" ")
        if not all(re.fullmatch("[a-z]{1,8}", name) for name in names) or len(set(names)) < len(names) or len(names) > 4:
            return "NoTree"
        if not set(names) <= set(self.worths):
            return "NoPlayer"
        return pairs(group_foretold(names, self.worths))


def plain_ends(games, anchor, scale, rounds):
    uppers = row_of(games, anchor, scale, rounds, None, True)
    lowers = row_of(games, anchor, scale, rounds, None, False)
    return [(pair(value((low, scale))) if lowers[1] else (0, 1), pair(value((high, scale))) if uppers[1] else None)
            for low, high in zip(lowers[0], uppers[0])]
