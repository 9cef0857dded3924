"""Asks: which codes fit them, which of them clash, which of them are needless."""

from guesscode.codes import all_codes, answer_of, checked_game, is_code, is_number_within, is_pair
from guesscode.errors import BadAsk, Clash

MOST_ASKS = 8


# An answer may be one that no two codes give: such an ask clashes, but is an ask.
def is_answer(game, thing):
    return is_pair(thing) and all([is_number_within(number, 0, game[0]) for number in thing])


def is_ask(game, thing):
    return is_pair(thing) and is_code(game, thing[0]) and is_answer(game, thing[1])


# The game is one that has been checked; is_one(game, thing) tells what may stand in the list.
def checked_list(game, things, is_one):
    # A list that is too long is no such list, whatever stands in it.
    if not isinstance(things, list) or len(things) > MOST_ASKS:
        raise BadAsk(0)
    for at, thing in enumerate(things):
        if not is_one(game, thing):
            raise BadAsk(at)
    return things


def checked_asks(game, asks):
    return checked_list(game, asks, is_ask)


# Guesses alone are refused like asks.
def checked_guesses(game, guesses):
    return checked_list(game, guesses, is_code)


def fits_ask(code, ask):
    return answer_of(code, ask[0]) == ask[1]


def those_that_fit(codes, asks):
    fitting = codes
    for ask in asks:
        fitting = [code for code in fitting if fits_ask(code, ask)]
    return fitting


def what_fits(game, asks):
    checked_game(game)
    checked_asks(game, asks)
    return those_that_fit(all_codes(game), asks)


# For those that need something that fits: found is empty where nothing does.
def found_or_clash(found):
    if not found:
        raise Clash("no code fits these asks")
    return found


# All rising choices of so many of the places, in the order of lists.
def choices(places, size):
    chosen = [[]]
    for step in range(size):
        longer = []
        for choice in chosen:
            start = choice[-1] + 1 if choice else 0
            longer.extend([choice + [at] for at in range(start, places)])
        chosen = longer
    return chosen


def which_asks_fit(code, asks):
    return [fits_ask(code, ask) for ask in asks]


# Each row tells of one code which asks it fits.
def clash_by(choice, rows):
    for row in rows:
        if all([row[at] for at in choice]):
            return False
    return True


def why_clash(game, asks):
    if what_fits(game, asks):
        return None
    rows = [which_asks_fit(code, asks) for code in all_codes(game)]
    for size in range(1, len(asks)):
        for choice in choices(len(asks), size):
            if clash_by(choice, rows):
                return choice
    # No fewer do, so it takes all of them.
    return list(range(len(asks)))


def needless(game, asks):
    fitting = what_fits(game, asks)
    codes = all_codes(game)
    return [at for at in range(len(asks)) if those_that_fit(codes, asks[:at] + asks[at + 1:]) == fitting]


def settled(game, asks):
    fitting = found_or_clash(what_fits(game, asks))
    if len(fitting) > 1:
        return None
    return fitting[0]
