"""Promises [2] and [3]: games, codes, and answers."""

import unittest

from guesscode.codes import all_answers, all_codes, answer, checked_game
from guesscode.errors import BadCode, BadGame
from tests.helper import ALL_GAMES, NO_CODES, NO_GAMES, plain_answer, plain_codes


class Games(unittest.TestCase):
    def test_a_game_is_told_as_it_is(self):
        for game in [(1, 1), (1, 8), (5, 1), (5, 3), (4, 4), (3, 6), (2, 8), (2, 3)]:
            self.assertEqual(checked_game(game), game)
            self.assertIs(type(checked_game(game)), tuple)

    def test_all_near_the_edges(self):
        for places in range(-1, 9):
            for colours in range(-1, 12):
                game = (places, colours)
                with self.subTest(game=game):
                    if game in ALL_GAMES:
                        self.assertEqual(checked_game(game), game)
                    else:
                        self.assertRaises(BadGame, checked_game, game)

    def test_not_quite_300_codes_and_more(self):
        self.assertEqual(len(all_codes((5, 3))), 243)
        self.assertEqual(len(all_codes((4, 4))), 256)
        self.assertEqual(len(all_codes((3, 6))), 216)
        for game in [(3, 7), (3, 8), (4, 5), (5, 4), (5, 8)]:
            self.assertRaises(BadGame, all_codes, game)

    def test_what_is_no_game(self):
        for game in NO_GAMES:
            with self.subTest(game=game):
                self.assertRaises(BadGame, checked_game, game)
                self.assertRaises(BadGame, all_codes, game)
                self.assertRaises(BadGame, all_answers, game)
                self.assertRaises(BadGame, answer, game, (0, 0), (0, 0))


class Codes(unittest.TestCase):
    def test_written_out(self):
        self.assertEqual(all_codes((1, 1)), [(0,)])
        self.assertEqual(all_codes((5, 1)), [(0, 0, 0, 0, 0)])
        self.assertEqual(all_codes((1, 8)), [(0,), (1,), (2,), (3,), (4,), (5,), (6,), (7,)])
        self.assertEqual(all_codes((2, 3)), [(0, 0), (0, 1), (0, 2), (1, 0), (1, 1), (1, 2), (2, 0), (2, 1), (2, 2)])
        self.assertEqual(all_codes((3, 2))[:3], [(0, 0, 0), (0, 0, 1), (0, 1, 0)])

    def test_every_game(self):
        for game in ALL_GAMES:
            codes = all_codes(game)
            self.assertEqual(codes, plain_codes(game))
            self.assertIs(type(codes), list)
            self.assertEqual({type(code) for code in codes}, {tuple})

    def test_what_is_no_code(self):
        for code in NO_CODES:
            with self.subTest(code=code):
                self.assertRaises(BadCode, answer, (2, 3), code, (0, 1))
                self.assertRaises(BadCode, answer, (2, 3), (0, 1), code)
                self.assertRaises(BadCode, answer, (2, 3), code, code)

    def test_codes_of_another_game(self):
        self.assertRaises(BadCode, answer, (1, 1), (1,), (0,))
        self.assertRaises(BadCode, answer, (1, 1), (0,), (1,))
        self.assertRaises(BadCode, answer, (1, 8), (8,), (0,))
        self.assertRaises(BadCode, answer, (5, 3), (0, 0, 0, 0), (0, 0, 0, 0, 0))
        self.assertRaises(BadCode, answer, (5, 3), (0, 0, 0, 0, 0), (0, 0, 0, 0, 3))


class Answers(unittest.TestCase):
    def test_written_out(self):
        for game, hidden, guess, told in [
            ((1, 1), (0,), (0,), (1, 0)),
            ((1, 8), (7,), (0,), (0, 0)),
            ((2, 3), (0, 1), (1, 0), (0, 2)),
            ((2, 3), (0, 1), (0, 2), (1, 0)),
            ((2, 3), (0, 0), (0, 1), (1, 0)),
            ((2, 3), (0, 0), (1, 2), (0, 0)),
            ((3, 6), (0, 1, 2), (1, 2, 0), (0, 3)),
            ((3, 6), (0, 0, 1), (2, 2, 0), (0, 1)),
            ((3, 6), (5, 5, 5), (0, 5, 4), (1, 0)),
            ((4, 4), (0, 0, 1, 1), (1, 1, 0, 0), (0, 4)),
            ((4, 4), (0, 0, 0, 1), (1, 2, 3, 0), (0, 2)),
            ((4, 4), (0, 0, 0, 1), (0, 1, 1, 1), (2, 0)),
            ((4, 4), (0, 0, 1, 2), (0, 1, 0, 0), (1, 2)),
            ((4, 4), (3, 3, 3, 3), (3, 3, 3, 3), (4, 0)),
            ((5, 3), (0, 0, 0, 1, 1), (1, 1, 0, 0, 2), (1, 3)),
            ((5, 3), (2, 2, 2, 2, 0), (0, 0, 0, 0, 2), (0, 2)),
        ]:
            with self.subTest(hidden=hidden, guess=guess):
                self.assertEqual(answer(game, hidden, guess), told)
                self.assertEqual(answer(game, guess, hidden), told)
                self.assertIs(type(answer(game, hidden, guess)), tuple)
                self.assertEqual([type(number) for number in answer(game, hidden, guess)], [int, int])

    def test_every_two_codes(self):
        for game in [(1, 8), (2, 8), (3, 4), (4, 3), (5, 2), (5, 1)]:
            for hidden in plain_codes(game):
                for guess in plain_codes(game):
                    self.assertEqual(answer(game, hidden, guess), plain_answer(hidden, guess), (game, hidden, guess))

    def test_all_answers_written_out(self):
        self.assertEqual(all_answers((1, 1)), [(1, 0)])
        self.assertEqual(all_answers((5, 1)), [(5, 0)])
        self.assertEqual(all_answers((1, 8)), [(0, 0), (1, 0)])
        self.assertEqual(all_answers((2, 2)), [(0, 0), (0, 2), (1, 0), (2, 0)])
        self.assertEqual(all_answers((2, 3)), [(0, 0), (0, 1), (0, 2), (1, 0), (2, 0)])
        self.assertEqual(all_answers((3, 2)), [(0, 0), (0, 2), (1, 0), (1, 2), (2, 0), (3, 0)])
        self.assertEqual(
            all_answers((3, 3)), [(0, 0), (0, 1), (0, 2), (0, 3), (1, 0), (1, 1), (1, 2), (2, 0), (3, 0)])

    def test_all_answers_of_every_game(self):
        for game in ALL_GAMES:
            codes = plain_codes(game)
            told = all_answers(game)
            self.assertEqual(told, sorted({plain_answer(one, other) for one in codes for other in codes}))
            self.assertIs(type(told), list)
            self.assertEqual({type(one) for one in told}, {tuple})


if __name__ == "__main__":
    unittest.main()
