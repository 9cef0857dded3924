"""Promise [9]: places and colours named otherwise."""

import unittest
from collections import Counter
from itertools import permutations, product

from guesscode.asks import needless, what_fits, why_clash
from guesscode.errors import BadAsk, BadCode, BadGame
from guesscode.naming import least_guess_like, renamed
from tests.helper import (
    ALL_GAMES, NO_CODES, NO_GAMES, NO_PLAIN_THINGS, SMALL_GAMES, plain_answer, plain_codes, plain_least_like,
    plain_named, plain_orders, some_asks)

GAME = (2, 3)
ASKS = [((0, 1), (1, 0)), ((2, 2), (0, 0))]
CLASHING = [((0, 1), (1, 0)), ((0, 1), (0, 1))]

NO_ORDERS = NO_PLAIN_THINGS + [
    (0,), (0, 0), (1, 1), (0, 2), (1, 2), (2, 1), (-1, 0), (0, -1), (1, 0, 1), (0, 1, 1), (0, 1, 3), (1, 2, 3),
    (2, 2, 2), (0, 1, 2, 3), (0, 0, 1, 2), (0, 1, 10 ** 50), [0, 1], [0, 1, 2], "012", {0, 1, 2}, range(3),
    (True, 0), (0, True), (False, True), (False, 1, 2), (0, True, 2), (0.0, 1), (0, 1.0, 2), ("0", "1"), (0, "1", 2),
    (None, 0), (0, None, 1), ((0,), (1,)), ([], {}), (0, [1], 2), (0, float("nan"), 1), {0: 1, 1: 0, 2: 2},
]


def few_orders(game):
    return len(plain_orders(game)) <= 240


class Renamed(unittest.TestCase):
    def check(self, game, asks, places, colours):
        told = renamed(game, asks, places, colours)
        self.assertEqual(told, [(plain_named(guess, places, colours), given) for guess, given in asks])
        self.assertIs(type(told), list)
        for ask in told:
            self.assertEqual([type(ask), type(ask[0]), type(ask[1])], [tuple, tuple, tuple])

    def test_written_out(self):
        self.assertEqual(renamed(GAME, [], (0, 1), (0, 1, 2)), [])
        self.assertEqual(renamed(GAME, ASKS, (0, 1), (0, 1, 2)), ASKS)
        self.assertEqual(renamed(GAME, ASKS, (1, 0), (0, 1, 2)), [((1, 0), (1, 0)), ((2, 2), (0, 0))])
        self.assertEqual(renamed(GAME, ASKS, (0, 1), (1, 2, 0)), [((1, 2), (1, 0)), ((0, 0), (0, 0))])
        self.assertEqual(renamed(GAME, ASKS, (1, 0), (1, 2, 0)), [((2, 1), (1, 0)), ((0, 0), (0, 0))])
        self.assertEqual(renamed((1, 1), [((0,), (1, 1))], (0,), (0,)), [((0,), (1, 1))])

    def test_a_colour_goes_to_the_place_that_the_order_has_there(self):
        self.assertEqual(renamed((3, 3), [((0, 1, 2), (1, 2))], (1, 2, 0), (0, 1, 2)), [((2, 0, 1), (1, 2))])
        self.assertEqual(renamed((3, 3), [((0, 1, 2), (1, 2))], (1, 2, 0), (1, 2, 0)), [((0, 1, 2), (1, 2))])
        self.assertEqual(renamed((5, 2), [((0, 0, 0, 0, 1), (5, 5))], (4, 0, 1, 2, 3), (0, 1)),
                         [((0, 0, 0, 1, 0), (5, 5))])

    def test_asks_that_clash_are_renamed_too(self):
        self.assertEqual(renamed(GAME, CLASHING, (1, 0), (0, 1, 2)), [((1, 0), (1, 0)), ((1, 0), (0, 1))])

    def test_every_order_and_code_of_small_games(self):
        for game in filter(few_orders, SMALL_GAMES):
            for places, colours in plain_orders(game):
                for guess in plain_codes(game):
                    self.check(game, [(guess, (0, game[0]))], places, colours)

    def test_many_asks(self):
        for game in ALL_GAMES:
            places = tuple(range(1, game[0])) + (0,)
            colours = tuple(range(1, game[1])) + (0,)
            for many in range(9):
                asks = some_asks(game, many, many, many % 2 == 0)
                self.check(game, asks, places, colours)
                self.check(game, asks, places[::-1], colours[::-1])

    def test_answers_stay(self):
        for game in [(2, 3), (3, 2), (3, 3)]:
            for places, colours in plain_orders(game):
                named = [ask[0] for code in plain_codes(game)
                         for ask in renamed(game, [(code, (0, 0))], places, colours)]
                for one, other in zip(product(plain_codes(game), repeat=2), product(named, repeat=2)):
                    self.assertEqual(plain_answer(*one), plain_answer(*other))

    def test_all_else_is_named_along(self):
        for seed in range(9):
            asks = some_asks((3, 3), seed, seed, seed % 3 > 0)
            for places, colours in plain_orders((3, 3)):
                named = renamed((3, 3), asks, places, colours)
                fitting = [plain_named(code, places, colours) for code in what_fits((3, 3), asks)]
                self.assertEqual(what_fits((3, 3), named), sorted(fitting))
                self.assertEqual(why_clash((3, 3), named), why_clash((3, 3), asks))
                self.assertEqual(needless((3, 3), named), needless((3, 3), asks))

    def test_what_is_no_order(self):
        for order in NO_ORDERS:
            with self.subTest(order=order):
                self.assertRaises(BadCode, renamed, GAME, ASKS, order, (0, 1, 2))
                self.assertRaises(BadCode, renamed, GAME, ASKS, (0, 1), order)
                self.assertRaises(BadCode, renamed, GAME, [], order, order)
        self.assertRaises(BadCode, renamed, GAME, ASKS, (0, 1, 2), (0, 1, 2))
        self.assertRaises(BadCode, renamed, GAME, ASKS, (0, 1), (0, 1))
        self.assertRaises(BadCode, renamed, GAME, ASKS, (0, 1, 2), (0, 1))
        self.assertRaises(BadCode, renamed, (1, 1), [], (False,), (0,))
        self.assertRaises(BadCode, renamed, (1, 1), [], (0,), (False,))
        self.assertRaises(BadCode, renamed, (1, 1), [], (), ())

    def test_all_tuples_near_orders(self):
        for size in range(5):
            for order in product(range(-1, 4), repeat=size):
                if order not in permutations(range(3)):
                    self.assertRaises(BadCode, renamed, (3, 3), [], order, (0, 1, 2))
                    self.assertRaises(BadCode, renamed, (3, 3), [], (0, 1, 2), order)

    def test_the_first_of_several_refusals(self):
        for game in NO_GAMES:
            self.assertRaises(BadGame, renamed, game, [], (0, 1), (0, 1, 2))
            self.assertRaises(BadGame, renamed, game, None, None, None)
        for asks in [None, [None], ASKS * 5, [((0, 3), (0, 0))]]:
            self.assertRaises(BadAsk, renamed, GAME, asks, None, None)
            self.assertRaises(BadAsk, renamed, GAME, asks, (0, 0), (0, 1, 2))
            self.assertRaises(BadAsk, renamed, GAME, asks, (0, 1), (0, 1, 2))
        with self.assertRaises(BadAsk) as taken:
            renamed(GAME, ASKS + [None], None, None)
        self.assertEqual(taken.exception.at, 2)


class LeastGuessLike(unittest.TestCase):
    def test_written_out(self):
        for game, guess, least in [
            ((1, 1), (0,), (0,)),
            ((1, 8), (7,), (0,)),
            ((2, 3), (2, 2), (0, 0)),
            ((2, 3), (2, 0), (0, 1)),
            ((3, 6), (5, 0, 5), (0, 0, 1)),
            ((3, 6), (5, 4, 3), (0, 1, 2)),
            ((4, 4), (3, 1, 1, 3), (0, 0, 1, 1)),
            ((4, 4), (0, 1, 2, 2), (0, 0, 1, 2)),
            ((4, 4), (0, 1, 1, 1), (0, 0, 0, 1)),
            ((5, 3), (0, 1, 2, 1, 2), (0, 0, 1, 1, 2)),
            ((5, 3), (0, 1, 2, 2, 2), (0, 0, 0, 1, 2)),
            ((5, 2), (0, 0, 1, 1, 1), (0, 0, 0, 1, 1)),
        ]:
            with self.subTest(game=game, guess=guess):
                self.assertEqual(least_guess_like(game, guess), least)
                self.assertIs(type(least_guess_like(game, guess)), tuple)

    def test_by_every_order(self):
        for game in filter(few_orders, ALL_GAMES):
            for guess in plain_codes(game):
                self.assertEqual(least_guess_like(game, guess), plain_least_like(game, guess), (game, guess))

    def test_by_how_often_colours_stand_in_every_game(self):
        for game in ALL_GAMES:
            least = {}
            for code in plain_codes(game):
                shape = tuple(sorted(Counter(code).values()))
                least.setdefault(shape, code)
                self.assertEqual(least_guess_like(game, code), least[shape], (game, code))

    def test_what_is_refused(self):
        for code in NO_CODES:
            with self.subTest(code=code):
                self.assertRaises(BadCode, least_guess_like, GAME, code)
        self.assertRaises(BadCode, least_guess_like, (1, 1), (1,))
        for game in NO_GAMES:
            with self.subTest(game=game):
                self.assertRaises(BadGame, least_guess_like, game, (0, 0))
                self.assertRaises(BadGame, least_guess_like, game, None)


if __name__ == "__main__":
    unittest.main()
