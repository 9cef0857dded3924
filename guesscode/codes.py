"""Games, their codes, and how two codes answer each other."""

from guesscode.errors import BadCode, BadGame, TooBig

MOST_PLACES = 5
MOST_COLOURS = 8
MOST_CODES = 300
MOST_CODES_SEARCHED = 16


# True and False are whole numbers to Python, but not here.
def is_number_within(thing, low, high):
    return isinstance(thing, int) and not isinstance(thing, bool) and low <= thing <= high


def is_pair(thing):
    return isinstance(thing, tuple) and len(thing) == 2


def how_many_codes(places, colours):
    codes = 1
    for place in range(places):
        codes *= colours
    return codes


def is_game(thing):
    if not is_pair(thing):
        return False
    if not is_number_within(thing[0], 1, MOST_PLACES) or not is_number_within(thing[1], 1, MOST_COLOURS):
        return False
    return how_many_codes(thing[0], thing[1]) <= MOST_CODES


def checked_game(game):
    if not is_game(game):
        raise BadGame("no game: a tuple of 1 to 5 places and 1 to 8 colours, with at most 300 codes")
    return game


# For those that search whole games. The game is one that has been checked.
def small_game(game):
    if how_many_codes(game[0], game[1]) > MOST_CODES_SEARCHED:
        raise TooBig("a game of more than 16 codes")
    return game


# The game is one that has been checked.
def is_code(game, thing):
    if not isinstance(thing, tuple) or len(thing) != game[0]:
        return False
    return all([is_number_within(colour, 0, game[1] - 1) for colour in thing])


# The game is one that has been checked.
def checked_code(game, code):
    if not is_code(game, code):
        raise BadCode("no code of the game: a tuple with a colour for each place")
    return code


def all_codes(game):
    checked_game(game)
    codes = [()]
    for place in range(game[0]):
        longer = []
        # Shorter codes in order, each with its next colours in order, keep the order of tuples.
        for code in codes:
            longer.extend([code + (colour,) for colour in range(game[1])])
        codes = longer
    return codes


# Checks nothing: it is called for each pair of codes of a game.
def answer_of(hidden, guess):
    right = 0
    shared = 0
    unmatched = list(hidden)
    for place, colour in enumerate(guess):
        if hidden[place] == colour:
            right += 1
        if colour in unmatched:
            unmatched.remove(colour)
            shared += 1
    return (right, shared - right)


def all_answers(game):
    codes = all_codes(game)
    given = {}
    for at, hidden in enumerate(codes):
        # Two codes answer each other alike, so each pair is asked one way round.
        for guess in codes[at:]:
            given[answer_of(hidden, guess)] = True
    return sorted(given)


def answer(game, hidden, guess):
    checked_game(game)
    return answer_of(checked_code(game, hidden), checked_code(game, guess))
