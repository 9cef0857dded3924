"""Promise [8]: guesses that settle all."""

import unittest
from itertools import product

from guesscode.errors import BadAsk, BadGame, TooBig
from guesscode.settling import alike_by, fewest_settling, settle_all
from tests.helper import (
    ALL_GAMES, BIG_GAMES, NO_CODES, NO_GAMES, NO_LISTS, SMALL_GAMES, plain_alike_by, plain_codes,
    plain_fewest_settling, some_asks)

GAME = (2, 3)


class WhatAreGuesses(unittest.TestCase):
    def check_refused(self, guesses, at):
        for call in [settle_all, alike_by]:
            with self.assertRaises(BadAsk) as taken:
                call(GAME, guesses)
            self.assertEqual(taken.exception.at, at)

    def test_no_lists(self):
        for guesses in NO_LISTS:
            with self.subTest(guesses=guesses):
                self.check_refused(guesses, 0)

    def test_what_is_no_code(self):
        for code in NO_CODES:
            with self.subTest(code=code):
                self.check_refused([code], 0)
                self.check_refused([(0, 1), code], 1)

    def test_asks_are_no_guesses(self):
        self.check_refused([((0, 1), (1, 0))], 0)

    def test_spoilt_at_each_place(self):
        for at in range(8):
            guesses = [(0, 1)] * 8
            guesses[at] = (0, 3)
            self.check_refused(guesses, at)
            self.check_refused(guesses[:at + 1], at)

    def test_the_first_of_several_is_told(self):
        self.check_refused([(0, 1), None, (0, 1), (9, 9)], 1)

    def test_at_most_eight(self):
        self.check_refused([(0, 1)] * 9, 0)
        self.check_refused([(0, 1)] * 20, 0)
        self.assertEqual(alike_by(GAME, [(0, 1)] * 8), plain_alike_by(GAME, [(0, 1)]))
        self.assertFalse(settle_all(GAME, [(0, 1)] * 8))

    def test_what_is_no_game(self):
        for game in NO_GAMES:
            with self.subTest(game=game):
                for call in [settle_all, alike_by]:
                    for guesses in [[], [(0, 0)], None, [None]]:
                        self.assertRaises(BadGame, call, game, guesses)
                self.assertRaises(BadGame, fewest_settling, game)


class SettleAll(unittest.TestCase):
    def check(self, game, guesses):
        pair = plain_alike_by(game, guesses)
        told = alike_by(game, guesses)
        self.assertEqual(told, pair, (game, guesses))
        self.assertIs(settle_all(game, guesses), pair is None, (game, guesses))
        if told is not None:
            self.assertEqual([type(told), type(told[0]), type(told[1])], [tuple, tuple, tuple])

    def test_written_out(self):
        self.assertEqual(alike_by(GAME, []), ((0, 0), (0, 1)))
        self.assertEqual(alike_by(GAME, [(0, 0)]), ((0, 1), (0, 2)))
        self.assertEqual(alike_by(GAME, [(0, 1)]), ((0, 0), (0, 2)))
        self.assertIsNone(alike_by(GAME, [(0, 1), (0, 2)]))
        self.assertIs(settle_all(GAME, [(0, 1), (0, 2)]), True)
        self.assertIs(settle_all(GAME, [(0, 1), (0, 1)]), False)

    def test_the_least_pair_is_not_that_of_the_nearest_codes(self):
        self.assertEqual(alike_by((2, 2), [(0, 0)]), ((0, 1), (1, 0)))
        self.assertEqual(alike_by((2, 4), [(0, 1), (0, 2)]), ((0, 0), (0, 3)))
        self.assertEqual(alike_by((1, 8), [(1,), (2,), (3,), (4,), (5,), (6,)]), ((0,), (7,)))

    def test_a_game_of_one_code(self):
        for places in range(1, 6):
            self.assertIs(settle_all((places, 1), []), True)
            self.assertIsNone(alike_by((places, 1), []))
            self.assertIsNone(alike_by((places, 1), [(0,) * places]))

    def test_no_guess_in_every_game(self):
        for game in ALL_GAMES:
            self.check(game, [])

    def test_all_up_to_two_guesses_in_every_small_game(self):
        for game in SMALL_GAMES:
            for size in [1, 2]:
                for guesses in product(plain_codes(game), repeat=size):
                    self.check(game, list(guesses))

    def test_all_three_guesses(self):
        for game in [(1, 4), (2, 2), (2, 3), (3, 2)]:
            for guesses in product(plain_codes(game), repeat=3):
                self.check(game, list(guesses))

    def test_up_to_eight_guesses(self):
        for game in SMALL_GAMES + [(2, 8), (3, 3), (3, 6), (4, 4), (5, 3)]:
            for many in range(9):
                self.check(game, [guess for guess, told in some_asks(game, many, many, True)])


class FewestSettling(unittest.TestCase):
    def test_written_out(self):
        self.assertEqual(fewest_settling((1, 1)), [])
        self.assertEqual(fewest_settling((5, 1)), [])
        self.assertEqual(fewest_settling((1, 2)), [(0,)])
        self.assertEqual(fewest_settling((1, 8)), [(0,), (1,), (2,), (3,), (4,), (5,), (6,)])
        self.assertEqual(fewest_settling(GAME), [(0, 1), (0, 2)])
        self.assertEqual(fewest_settling((4, 2)), [(0, 0, 0, 1), (0, 0, 1, 0), (0, 1, 0, 0)])

    def test_every_small_game(self):
        for game in SMALL_GAMES:
            told = fewest_settling(game)
            self.assertEqual(told, plain_fewest_settling(game), game)
            self.assertIs(type(told), list)
            self.assertIs(settle_all(game, told), True)

    def test_more_than_16_codes(self):
        for game in BIG_GAMES:
            with self.subTest(game=game):
                self.assertRaises(TooBig, fewest_settling, game)

    def test_no_game_goes_before_too_big(self):
        for game in [(3, 7), (5, 4), (5, 8), (9, 9)]:
            self.assertRaises(BadGame, fewest_settling, game)


if __name__ == "__main__":
    unittest.main()
