"""Lists of guesses that tell every code at once, whatever it is."""

from guesscode.asks import checked_guesses, choices
from guesscode.codes import all_codes, answer_of, checked_game, small_game


def answers_to(code, guesses):
    return tuple([answer_of(code, guess) for guess in guesses])


# The codes rise. None where no two are alike.
def first_alike(codes, guesses):
    first = {}
    pairs = []
    for code in codes:
        given = answers_to(code, guesses)
        if given in first:
            pairs.append((first[given], code))
        else:
            first[given] = code
    # Each code is paired with the least one that is alike, so the first of all pairs is among these.
    return min(pairs, default=None)


def alike_by(game, guesses):
    checked_game(game)
    checked_guesses(game, guesses)
    return first_alike(all_codes(game), guesses)


def settle_all(game, guesses):
    return alike_by(game, guesses) is None


def first_settling(codes, size):
    for choice in choices(len(codes), size):
        guesses = [codes[at] for at in choice]
        if first_alike(codes, guesses) is None:
            return guesses
    return None


def fewest_settling(game):
    checked_game(game)
    small_game(game)
    codes = all_codes(game)
    size = 0
    guesses = first_settling(codes, size)
    # A code that is guessed is told from all others, so in the end some guesses settle all.
    while guesses is None:
        size += 1
        guesses = first_settling(codes, size)
    return guesses
