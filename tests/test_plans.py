"""Promise [7]: plans with the fewest asks."""

import unittest
from itertools import product

from guesscode.errors import BadAsk, BadGame, Clash, TooBig
from guesscode.plans import a_plan, fewest_asks
from tests.helper import (
    BIG_GAMES, NO_GAMES, SMALL_GAMES, every_ask, plain_answer, plain_codes, plain_fewest_asks, plain_fits, some_asks)

GAME = (2, 3)
CLASHING = [((0, 1), (1, 0)), ((0, 1), (0, 1))]


class Plans(unittest.TestCase):
    def asks_of(self, game, fitting, plan):
        """How many asks a plan needs, after a look at its form all the way down."""
        self.assertIs(type(plan), tuple)
        if len(fitting) == 1:
            self.assertEqual(plan, fitting[0])
            return 0
        guess, rows = plan
        self.assertIn(guess, plain_codes(game))
        self.assertIs(type(rows), tuple)
        self.assertEqual([told for told, rest in rows], sorted({plain_answer(code, guess) for code in fitting}))
        asks = 0
        for row in rows:
            self.assertIs(type(row), tuple)
            told, rest = row
            self.assertIs(type(told), tuple)
            left = [code for code in fitting if plain_answer(code, guess) == told]
            asks = max(asks, 1 + self.asks_of(game, left, rest))
        return asks

    def check(self, game, asks):
        fitting = plain_fits(game, asks)
        if not fitting:
            self.assertRaises(Clash, fewest_asks, game, asks)
            self.assertRaises(Clash, a_plan, game, asks)
            return
        fewest = plain_fewest_asks(game, fitting)
        self.assertEqual(fewest_asks(game, asks), fewest, (game, asks))
        self.assertIs(type(fewest_asks(game, asks)), int)
        self.assertEqual(self.asks_of(game, fitting, a_plan(game, asks)), fewest, (game, asks))

    def test_written_out(self):
        self.assertEqual(fewest_asks((1, 2), []), 1)
        self.assertIn(a_plan((1, 2), []), [
            ((0,), (((0, 0), (1,)), ((1, 0), (0,)))),
            ((1,), (((0, 0), (0,)), ((1, 0), (1,)))),
        ])
        self.assertEqual(fewest_asks(GAME, []), 2)
        self.assertEqual(fewest_asks((2, 4), []), 3)
        self.assertEqual(fewest_asks((4, 2), []), 3)
        self.assertEqual([fewest_asks((1, colours), []) for colours in range(1, 9)], [0, 1, 2, 3, 4, 5, 6, 7])

    def test_a_code_that_is_told_by_now(self):
        self.assertEqual(a_plan((1, 1), []), (0,))
        self.assertEqual(fewest_asks((1, 1), []), 0)
        self.assertEqual(a_plan((5, 1), []), (0, 0, 0, 0, 0))
        self.assertEqual(fewest_asks((5, 1), []), 0)
        self.assertEqual(a_plan(GAME, [((0, 1), (0, 2))]), (1, 0))
        self.assertEqual(fewest_asks(GAME, [((0, 1), (0, 2))]), 0)

    def test_a_guess_that_does_not_fit_may_need_fewer_asks(self):
        asks = [((0, 0), (0, 0)), ((0, 1), (1, 0))]
        self.assertEqual(plain_fits((2, 4), asks), [(1, 1), (2, 1), (3, 1)])
        self.assertEqual(fewest_asks((2, 4), asks), 1)
        self.assertNotIn(a_plan((2, 4), asks)[0], plain_fits((2, 4), asks))

    def test_every_small_game(self):
        for game in SMALL_GAMES:
            self.check(game, [])

    def test_every_ask_of_every_small_game(self):
        for game in SMALL_GAMES:
            for ask in every_ask(game):
                self.check(game, [ask])

    def test_every_two_asks(self):
        for game in [(1, 3), (2, 2)]:
            for asks in product(every_ask(game), repeat=2):
                self.check(game, list(asks))

    def test_many_asks(self):
        for game in SMALL_GAMES:
            for seed in range(27):
                self.check(game, some_asks(game, seed, seed % 9, seed % 5 > 0))

    def test_plans_within_plans_have_the_fewest_asks_too(self):
        for game in SMALL_GAMES:
            plans = [(plain_codes(game), a_plan(game, []))]
            while plans:
                fitting, plan = plans.pop()
                self.assertEqual(self.asks_of(game, fitting, plan), plain_fewest_asks(game, fitting))
                for told, rest in plan[1] if len(fitting) > 1 else ():
                    plans.append(([code for code in fitting if plain_answer(code, plan[0]) == told], rest))

    def test_more_than_16_codes(self):
        for game in BIG_GAMES:
            guess = (0,) * game[0]
            for asks in [[], [(guess, (game[0], 0))], [(guess, (0, 0))]]:
                with self.subTest(game=game, asks=asks):
                    self.assertRaises(TooBig, fewest_asks, game, asks)
                    self.assertRaises(TooBig, a_plan, game, asks)

    def test_the_games_nearest_to_16_codes(self):
        self.assertTrue({(2, 4), (4, 2)} <= set(SMALL_GAMES))
        self.assertTrue({(2, 5), (3, 3), (5, 2)} <= set(BIG_GAMES))

    def test_what_is_refused(self):
        for call in [fewest_asks, a_plan]:
            for game in NO_GAMES:
                self.assertRaises(BadGame, call, game, [])
            self.assertRaises(BadAsk, call, GAME, None)
            self.assertRaises(Clash, call, GAME, CLASHING)
            self.assertRaises(Clash, call, (1, 1), [((0,), (0, 0))])
            self.assertRaises(Clash, call, GAME, [((0, 1), (2, 2))])

    def test_the_first_of_several_refusals(self):
        for call in [fewest_asks, a_plan]:
            self.assertRaises(BadGame, call, (3, 7), None)
            self.assertRaises(BadAsk, call, (3, 3), None)
            self.assertRaises(BadAsk, call, (3, 3), [((0, 0, 0), (3, 3)), None])
            self.assertRaises(Clash, call, (3, 3), [((0, 0, 0), (3, 3))])
            self.assertRaises(Clash, call, (4, 4), [((0, 0, 0, 0), (1, 1))])


if __name__ == "__main__":
    unittest.main()
