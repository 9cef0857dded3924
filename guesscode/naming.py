"""Places and colours named otherwise."""

from guesscode.asks import checked_asks
from guesscode.codes import checked_code, checked_game, is_number_within
from guesscode.errors import BadCode


# Whether it is a tuple of all numbers below size, each once.
def is_order(thing, size):
    if not isinstance(thing, tuple) or len(thing) != size:
        return False
    # Things of all kinds can't be sorted, so the numbers are asked for first.
    return all([is_number_within(number, 0, size - 1) for number in thing]) and sorted(thing) == list(range(size))


def checked_order(thing, size):
    if not is_order(thing, size):
        raise BadCode("no order: a tuple of all places, or of all colours, each once")
    return thing


def renamed_code(code, places, colours):
    named = list(code)
    for place, colour in enumerate(code):
        named[places[place]] = colours[colour]
    return tuple(named)


def renamed(game, asks, places, colours):
    checked_game(game)
    checked_asks(game, asks)
    checked_order(places, game[0])
    checked_order(colours, game[1])
    return [(renamed_code(ask[0], places, colours), ask[1]) for ask in asks]


def least_guess_like(game, guess):
    checked_game(game)
    checked_code(game, guess)
    counts = [guess.count(colour) for colour in range(game[1])]
    least = ()
    # Orders keep how often colours stand in a code, and no more: the least code has the most of the least colours.
    for colour, many in enumerate(sorted(counts, reverse=True)):
        least += (colour,) * many
    return least
