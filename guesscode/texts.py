"""Asks written as text, a line each, and read again."""

from guesscode.asks import MOST_ASKS, checked_asks, is_ask
from guesscode.codes import checked_game
from guesscode.errors import BadText

LETTERS = "abcdefgh"
DIGITS = "012345"


def shown_ask(ask):
    letters = "".join([LETTERS[colour] for colour in ask[0]])
    right = DIGITS[ask[1][0]]
    elsewhere = DIGITS[ask[1][1]]
    return f"{letters} {right} {elsewhere}\n"


def shown(game, asks):
    checked_game(game)
    checked_asks(game, asks)
    return "".join([shown_ask(ask) for ask in asks])


# What is not written in one of these digits becomes -1, which is no number of an answer.
def read_number(text):
    if len(text) != 1:
        return -1
    return DIGITS.find(text)


# Letters that are none become -1, which is no colour.
def read_guess(text):
    return tuple([LETTERS.find(letter) for letter in text])


def read_ask(game, line):
    parts = line.split(" ")
    if len(parts) != 3:
        raise BadText("no line of a guess and two numbers")
    ask = (read_guess(parts[0]), (read_number(parts[1]), read_number(parts[2])))
    if not is_ask(game, ask):
        raise BadText("no line of an ask of the game")
    return ask


def read(game, text):
    checked_game(game)
    if not isinstance(text, str):
        raise BadText("no text")
    lines = text.split("\n")
    # Behind the last line end stands nothing.
    ending = lines.pop()
    if ending != "" or len(lines) > MOST_ASKS:
        raise BadText("no text of at most 8 lines, each ended by a line end")
    return [read_ask(game, line) for line in lines]
