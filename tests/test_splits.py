"""Promise [6]: splits, the foe's answer, the best guess, and games played by best guesses."""

import unittest

from guesscode.errors import BadCode, BadGame, Clash
from guesscode.splits import best_guess, foe_answer, played, split
from tests.helper import (
    NO_CODES, NO_GAMES, plain_answer, plain_best_guess, plain_codes, plain_fits, plain_played, plain_split, some_asks)

GAME = (2, 3)
CLASHING = [((0, 1), (1, 0)), ((0, 1), (0, 1))]


def asks_to_try():
    for game in [(1, 4), (2, 3), (2, 4), (3, 2), (3, 3), (4, 2)]:
        for seed in range(6):
            for true_ones in [True, False]:
                yield game, some_asks(game, seed, seed % 4, true_ones)


class Split(unittest.TestCase):
    def test_without_asks(self):
        self.assertEqual(split((1, 1), [], (0,)), [((1, 0), 1)])
        self.assertEqual(split((1, 8), [], (5,)), [((0, 0), 7), ((1, 0), 1)])
        self.assertEqual(split(GAME, [], (0, 0)), [((0, 0), 4), ((1, 0), 4), ((2, 0), 1)])
        self.assertEqual(split(GAME, [], (0, 1)), [((0, 0), 1), ((0, 1), 2), ((0, 2), 1), ((1, 0), 4), ((2, 0), 1)])

    def test_with_asks(self):
        self.assertEqual(split(GAME, [((0, 0), (0, 0))], (1, 1)), [((0, 0), 1), ((1, 0), 2), ((2, 0), 1)])
        self.assertEqual(split(GAME, [((0, 0), (0, 0))], (0, 0)), [((0, 0), 4)])
        self.assertEqual(split(GAME, [((0, 1), (0, 2))], (0, 0)), [((1, 0), 1)])

    def test_nothing_fits(self):
        self.assertEqual(split(GAME, CLASHING, (0, 0)), [])
        self.assertEqual(split(GAME, [((0, 1), (2, 2))], (2, 2)), [])

    def test_many(self):
        for game, asks in asks_to_try():
            for guess in plain_codes(game):
                told = split(game, asks, guess)
                self.assertEqual(told, plain_split(game, asks, guess), (asks, guess))
                self.assertIs(type(told), list)
                self.assertTrue(all(type(row) is tuple and type(row[0]) is tuple for row in told))
        self.assertEqual(split((4, 4), [], (0, 0, 1, 2)), plain_split((4, 4), [], (0, 0, 1, 2)))

    def test_what_is_no_code_or_game(self):
        for code in NO_CODES:
            with self.subTest(code=code):
                self.assertRaises(BadCode, split, GAME, [], code)
                self.assertRaises(BadCode, split, GAME, CLASHING, code)
        for game in NO_GAMES:
            self.assertRaises(BadGame, split, game, [], (0, 0))


class FoeAnswer(unittest.TestCase):
    def test_most_are_left(self):
        self.assertEqual(foe_answer(GAME, [], (0, 1)), (1, 0))
        self.assertEqual(foe_answer((1, 8), [], (5,)), (0, 0))
        self.assertEqual(foe_answer(GAME, [((0, 0), (0, 0))], (1, 1)), (1, 0))
        self.assertEqual(foe_answer((1, 1), [], (0,)), (1, 0))
        self.assertIs(type(foe_answer(GAME, [], (0, 1))), tuple)

    def test_the_least_among_equals(self):
        self.assertEqual(foe_answer(GAME, [], (0, 0)), (0, 0))
        self.assertEqual(foe_answer((3, 2), [], (0, 0, 0)), (1, 0))
        self.assertEqual(foe_answer((1, 2), [], (0,)), (0, 0))
        self.assertEqual(foe_answer(GAME, [((0, 0), (1, 0)), ((1, 1), (1, 0))], (0, 1)), (0, 2))

    def test_nothing_fits(self):
        self.assertRaises(Clash, foe_answer, GAME, CLASHING, (0, 0))
        self.assertRaises(Clash, foe_answer, (1, 1), [((0,), (0, 0))], (0,))

    def test_many(self):
        for game, asks in asks_to_try():
            for guess in plain_codes(game):
                rows = plain_split(game, asks, guess)
                if rows:
                    most = max(many for told, many in rows)
                    least = min(told for told, many in rows if many == most)
                    self.assertEqual(foe_answer(game, asks, guess), least, (asks, guess))
                else:
                    self.assertRaises(Clash, foe_answer, game, asks, guess)

    def test_what_is_no_code_or_game(self):
        for code in NO_CODES:
            with self.subTest(code=code):
                self.assertRaises(BadCode, foe_answer, GAME, [], code)
                self.assertRaises(BadCode, foe_answer, GAME, CLASHING, code)
        for game in NO_GAMES:
            self.assertRaises(BadGame, foe_answer, game, [], (0, 0))


class BestGuess(unittest.TestCase):
    def test_fewest_left_at_the_most(self):
        self.assertEqual(best_guess((2, 4), []), (0, 1))
        self.assertEqual(best_guess((3, 3), []), (0, 0, 1))
        self.assertEqual(best_guess((4, 4), []), (0, 0, 1, 2))
        self.assertIs(type(best_guess((2, 4), [])), tuple)

    def test_one_that_fits_among_equals(self):
        self.assertEqual(best_guess((3, 2), [((0, 0, 0), (1, 0))]), (0, 1, 1))
        self.assertEqual(best_guess((3, 3), [((0, 0, 1), (0, 1))]), (1, 2, 2))
        self.assertEqual(best_guess((2, 4), [((0, 0), (0, 0))]), (1, 1))

    def test_one_that_does_not_fit_but_leaves_fewer(self):
        self.assertEqual(best_guess((2, 4), [((0, 0), (0, 0)), ((0, 1), (1, 0))]), (1, 2))
        self.assertEqual(best_guess((3, 3), [((0, 0, 0), (0, 0))]), (0, 1, 1))
        self.assertEqual(best_guess((4, 2), [((0, 0, 0, 0), (1, 0))]), (0, 0, 1, 1))

    def test_the_least_among_equals(self):
        self.assertEqual(best_guess((2, 2), []), (0, 0))
        self.assertEqual(best_guess((1, 8), []), (0,))
        self.assertEqual(best_guess((3, 2), []), (0, 0, 0))

    def test_one_code_alone(self):
        self.assertEqual(best_guess(GAME, [((0, 1), (0, 2))]), (1, 0))
        self.assertEqual(best_guess((1, 1), []), (0,))
        self.assertEqual(best_guess((5, 1), []), (0, 0, 0, 0, 0))

    def test_nothing_fits(self):
        self.assertRaises(Clash, best_guess, GAME, CLASHING)
        self.assertRaises(Clash, best_guess, (1, 1), [((0,), (0, 0))])

    def test_many(self):
        for game, asks in asks_to_try():
            if plain_fits(game, asks):
                self.assertEqual(best_guess(game, asks), plain_best_guess(game, asks), asks)
            else:
                self.assertRaises(Clash, best_guess, game, asks)


class Played(unittest.TestCase):
    def test_written_out(self):
        self.assertEqual(played((1, 2), (0,)), [((0,), (1, 0))])
        self.assertEqual(played((1, 2), (1,)), [((0,), (0, 0))])
        self.assertEqual(played((1, 4), (3,)), [((0,), (0, 0)), ((1,), (0, 0)), ((2,), (0, 0))])
        self.assertEqual(played((1, 4), (1,)), [((0,), (0, 0)), ((1,), (1, 0))])

    def test_a_game_of_one_code(self):
        self.assertEqual(played((1, 1), (0,)), [])
        self.assertEqual(played((5, 1), (0, 0, 0, 0, 0)), [])

    def test_against_every_code(self):
        for game in [(1, 8), (2, 2), (2, 3), (2, 4), (3, 2), (3, 3), (4, 2), (5, 2)]:
            for hidden in plain_codes(game):
                asks = played(game, hidden)
                self.assertEqual(asks, plain_played(game, hidden), (game, hidden))
                self.assertIs(type(asks), list)
                self.assertEqual({type(ask) for ask in asks}, {tuple})

    def test_each_ask_is_by_a_best_guess_until_one_code_fits(self):
        for game, hidden in [((4, 4), (3, 1, 0, 3)), ((5, 3), (2, 2, 1, 0, 2)), ((2, 8), (7, 6))]:
            asks = played(game, hidden)
            for at, (guess, told) in enumerate(asks):
                self.assertEqual(guess, best_guess(game, asks[:at]))
                self.assertEqual(told, plain_answer(hidden, guess))
                self.assertGreater(len(plain_fits(game, asks[:at])), 1)
            self.assertEqual(plain_fits(game, asks), [hidden])

    def test_what_is_no_code_or_game(self):
        for code in NO_CODES:
            with self.subTest(code=code):
                self.assertRaises(BadCode, played, GAME, code)
        self.assertRaises(BadCode, played, (1, 1), (1,))
        self.assertRaises(BadCode, played, (1, 1), ())
        for game in NO_GAMES:
            with self.subTest(game=game):
                self.assertRaises(BadGame, played, game, (0, 0))


if __name__ == "__main__":
    unittest.main()
