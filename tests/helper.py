"""What the tests share: a second, plainer reckoning of what is promised, and things of many kinds."""

from collections import Counter
from functools import lru_cache
from itertools import combinations, permutations, product
from random import Random

NO_PLAIN_THINGS = [
    None, True, False, 0, 1, 7, -1, 2.5, float("nan"), 1j, "", "ab", "01", b"ab",
    [], {}, set(), frozenset(), (), range(2), object(), len, int, {0: 1, 1: 2}, {0, 1},
]

NO_GAMES = NO_PLAIN_THINGS + [
    (1,), (2, 2, 2), [2, 2], "22", (0, 2), (2, 0), (6, 1), (1, 9), (-1, 2), (2, -1),
    (True, 2), (2, True), (True, True), (False, 2), (2.0, 2), (2, 2.0), ("2", 2), (2, "2"),
    (None, 2), (2, None), ((2,), 2), (2, [2]), ([], {}), {2: 2}, (10 ** 50, 2), (2, 10 ** 50),
    (10 ** 50, 10 ** 50), (3, 7), (4, 5), (5, 4), (5, 8),
]

# No codes of the game (2, 3).
NO_CODES = NO_PLAIN_THINGS + [
    (0,), (0, 0, 0), (0, 3), (3, 0), (-1, 0), (0, -1), (0, 10 ** 50), [0, 1], [0], "ab",
    (True, 0), (0, True), (False, 0), (0, False), (False, True), (0.0, 1), (0, 1.0), ("0", 1),
    (0, "a"), (None, 0), (0, None), ((0,), 1), (0, [1]), ([], {}), ((0, 1), (1, 1)),
]

# No asks of the game (2, 3): each spoilt in one of its parts.
NO_ASKS = (
    NO_PLAIN_THINGS
    + [(guess, (1, 0)) for guess in NO_CODES]
    + [((0, 1), told) for told in NO_PLAIN_THINGS]
    + [((0, 1), told) for told in [
        (0,), (0, 0, 0), (3, 0), (0, 3), (-1, 0), (0, -1), (0, 10 ** 50), [1, 0], "10",
        (True, 0), (0, True), (False, 0), (0, False), (1.0, 0), (0, 1.0), ("1", 0), (0, None), ([], 0)]]
    + [[(0, 1), (1, 0)], ((0, 1),), ((0, 1), (1, 0), (0, 0)), ((0, 1), 1, 0), (0, 1, 1, 0), (0, 1)]
)

NO_LISTS = [thing for thing in NO_PLAIN_THINGS if not isinstance(thing, list)] + [
    (((0, 1), (1, 0)),), ((0, 1), (1, 0)), {0: ((0, 1), (1, 0))}, {((0, 1), (1, 0))}, iter([]),
]

ALL_GAMES = [(places, colours) for places in range(1, 6) for colours in range(1, 9) if colours ** places <= 300]

SMALL_GAMES = [game for game in ALL_GAMES if game[1] ** game[0] <= 16]
BIG_GAMES = [game for game in ALL_GAMES if game not in SMALL_GAMES]


def plain_codes(game):
    return list(product(range(game[1]), repeat=game[0]))


@lru_cache(maxsize=None)
def plain_answer(hidden, guess):
    right = sum(one == other for one, other in zip(hidden, guess))
    return right, sum((Counter(hidden) & Counter(guess)).values()) - right


def plain_fits(game, asks):
    return [code for code in plain_codes(game) if all(plain_answer(code, guess) == told for guess, told in asks)]


def plain_why_clash(game, asks):
    for size in range(len(asks) + 1):
        for places in combinations(range(len(asks)), size):
            if not plain_fits(game, [asks[at] for at in places]):
                return list(places)
    return None


def plain_needless(game, asks):
    fitting = plain_fits(game, asks)
    return [at for at in range(len(asks)) if plain_fits(game, asks[:at] + asks[at + 1:]) == fitting]


def plain_split(game, asks, guess):
    return sorted(Counter(plain_answer(code, guess) for code in plain_fits(game, asks)).items())


def plain_best_guess(game, asks):
    fitting = plain_fits(game, asks)
    left = {guess: max(Counter(plain_answer(code, guess) for code in fitting).values()) for guess in plain_codes(game)}
    equals = [guess for guess in plain_codes(game) if left[guess] == min(left.values())]
    return ([guess for guess in equals if guess in fitting] or equals)[0]


def plain_played(game, hidden):
    asks = []
    while len(plain_fits(game, asks)) > 1:
        guess = plain_best_guess(game, asks)
        asks.append((guess, plain_answer(hidden, guess)))
    return asks


@lru_cache(maxsize=None)
def plain_can_tell(game, fitting, asks_left):
    """Whether so many asks more tell which code of the fitting ones it is, whatever is answered."""
    if len(fitting) == 1:
        return True
    if asks_left == 0:
        return False
    for guess in plain_codes(game):
        answers = {plain_answer(code, guess) for code in fitting}
        parts = [frozenset(code for code in fitting if plain_answer(code, guess) == told) for told in answers]
        if all(plain_can_tell(game, part, asks_left - 1) for part in parts):
            return True
    return False


def plain_fewest_asks(game, fitting):
    return next(many for many in range(17) if plain_can_tell(game, frozenset(fitting), many))


def plain_answers(code, guesses):
    return [plain_answer(code, guess) for guess in guesses]


def plain_alike_by(game, guesses):
    for one, other in combinations(plain_codes(game), 2):
        if plain_answers(one, guesses) == plain_answers(other, guesses):
            return one, other
    return None


def plain_fewest_settling(game):
    for size in range(17):
        for guesses in combinations(plain_codes(game), size):
            if plain_alike_by(game, guesses) is None:
                return list(guesses)
    raise AssertionError("all codes together settle all")


def plain_named(code, places, colours):
    named = {places[place]: colours[code[place]] for place in range(len(code))}
    return tuple(named[place] for place in range(len(code)))


def plain_orders(game):
    return list(product(permutations(range(game[0])), permutations(range(game[1]))))


def plain_least_like(game, guess):
    return min(plain_named(guess, places, colours) for places, colours in plain_orders(game))


def plain_shown(asks):
    return "".join("".join(chr(ord("a") + colour) for colour in guess) + " %d %d\n" % told for guess, told in asks)


def every_ask(game):
    """All asks of the game, also those with answers that no code gives."""
    return list(product(plain_codes(game), product(range(game[0] + 1), repeat=2)))


def some_asks(game, seed, how_many, true_ones):
    """Asks of the game, the same ones for the same seed: all true of one code, or with any answers at all."""
    chance = Random(seed)
    codes = plain_codes(game)
    hidden = chance.choice(codes)
    asks = []
    for _ in range(how_many):
        guess = chance.choice(codes)
        any_told = (chance.randint(0, game[0]), chance.randint(0, game[0]))
        told = plain_answer(chance.choice(codes), guess) if chance.random() < 0.8 else any_told
        asks.append((guess, plain_answer(hidden, guess) if true_ones else told))
    return asks
