"""Books: lists of games, their texts, their players and their points."""

from ladderworth.errors import NoBook, NoGame
from ladderworth.games import read_game, show_game, turned

PARTING = "; "
MOST_GAMES = 40
MOST_PLAYERS = 8


def read_book(text):
    if not isinstance(text, str):
        raise NoGame("a book is read from a text")
    # Parting the text without signs would give one part, which is no game.
    if text == "":
        return []
    games = [read_game(part) for part in text.split(PARTING)]
    check_size(games)
    return games


def check_size(games):
    if len(games) > MOST_GAMES:
        raise NoBook("a book has forty games at most")
    if len(players(games)) > MOST_PLAYERS:
        raise NoBook("a book has eight players at most")


def show_book(games):
    return PARTING.join([show_game(played) for played in games])


def in_order(games):
    # Python's sorting leaves games of one day as they stand.
    return sorted(games, key=lambda played: played[0])


def players(games):
    return sorted(set([played[1] for played in games] + [played[2] for played in games]))


def points(games):
    return [points_of(name, told_by(games, name)) for name in players(games)]


def points_of(name, told):
    return (name, len(told), sum([played[3] for played in told]))


def told_by(games, name):
    own = [played for played in games if name in (played[1], played[2])]
    return [played if played[1] == name else turned(played) for played in own]
