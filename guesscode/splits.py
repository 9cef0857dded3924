"""How a guess splits the codes that fit, and guesses that split best."""

from guesscode.asks import found_or_clash, those_that_fit, what_fits
from guesscode.codes import all_codes, answer_of, checked_code, checked_game


def counts_by_answer(codes, guess):
    counts = {}
    for code in codes:
        given = answer_of(code, guess)
        counts[given] = counts.get(given, 0) + 1
    return counts


def split(game, asks, guess):
    fitting = what_fits(game, asks)
    checked_code(game, guess)
    return sorted(counts_by_answer(fitting, guess).items())


def foe_answer(game, asks, guess):
    rows = found_or_clash(split(game, asks, guess))
    best = min(rows, key=lambda row: (-row[1], row[0]))
    return best[0]


def most_left(fitting, guess):
    return max(counts_by_answer(fitting, guess).values())


# False stands before True, so of equals one that fits comes first.
def best_of(codes, fitting):
    return min(codes, key=lambda guess: (most_left(fitting, guess), guess not in fitting, guess))


def best_guess(game, asks):
    fitting = found_or_clash(what_fits(game, asks))
    return best_of(all_codes(game), fitting)


def played(game, hidden):
    checked_game(game)
    checked_code(game, hidden)
    codes = all_codes(game)
    fitting = codes
    asks = []
    # A code that fits, as a guess, is told from all others that fit, so each best guess leaves fewer.
    while len(fitting) > 1:
        guess = best_of(codes, fitting)
        ask = (guess, answer_of(hidden, guess))
        asks.append(ask)
        fitting = those_that_fit(fitting, [ask])
    return asks
