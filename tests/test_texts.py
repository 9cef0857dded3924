"""Promise [10]: asks written and read."""

import re
import unittest
from itertools import product

from guesscode.errors import BadAsk, BadGame, BadText
from guesscode.texts import read, shown
from tests.helper import ALL_GAMES, NO_GAMES, NO_PLAIN_THINGS, SMALL_GAMES, every_ask, plain_shown, some_asks

GAME = (2, 3)
ASKS = [((0, 1), (1, 0)), ((2, 2), (0, 2))]
TEXT = "ab 1 0\ncc 0 2\n"

# Signs that look like those of an ask, or that some ways of reading pass over.
SIGNS = [
    "", " ", "  ", "\n", "\r", "\r\n", "\t", "\v", "\f", "\0", "\x1c", "\x85", "\xa0", "\u2028", "\u3000", "\ufeff",
    "a", "c", "d", "h", "i", "z", "A", "C", "`", "{", "\xe1", "\u0430", "0", "1", "2", "3", "5", "6", "9", "00", "01",
    "10", "+1", "-0", "-1", "1.0", "1_0", "\xb2", "\u0661", "\uff11", "(", ",", "#", "\\n", "\ud800", "None",
]


def is_written(game, text):
    letters = "abcdefgh"[:game[1]]
    return re.fullmatch("([%s]{%d} [0-%d] [0-%d]\n){0,8}" % (letters, game[0], game[0], game[0]), text) is not None


class Shown(unittest.TestCase):
    def test_written_out(self):
        self.assertEqual(shown(GAME, []), "")
        self.assertEqual(shown(GAME, ASKS), TEXT)
        self.assertEqual(shown((1, 1), [((0,), (1, 1))]), "a 1 1\n")
        self.assertEqual(shown((1, 8), [((colour,), (0, 0)) for colour in range(8)]),
                         "a 0 0\nb 0 0\nc 0 0\nd 0 0\ne 0 0\nf 0 0\ng 0 0\nh 0 0\n")
        self.assertEqual(shown((5, 3), [((2, 1, 0, 1, 2), (5, 4))]), "cbabc 5 4\n")

    def test_asks_that_clash_are_written_too(self):
        self.assertEqual(shown(GAME, [((0, 1), (2, 2)), ((0, 1), (0, 0))]), "ab 2 2\nab 0 0\n")

    def test_what_is_refused(self):
        for game in NO_GAMES:
            with self.subTest(game=game):
                self.assertRaises(BadGame, shown, game, [])
                self.assertRaises(BadGame, shown, game, None)
        for asks, at in [(None, 0), (ASKS + [None], 2), (ASKS * 5, 0), ([((0, 3), (0, 0))], 0), (TEXT, 0)]:
            with self.assertRaises(BadAsk) as taken:
                shown(GAME, asks)
            self.assertEqual(taken.exception.at, at)


class Read(unittest.TestCase):
    def test_written_out(self):
        self.assertEqual(read(GAME, ""), [])
        self.assertEqual(read(GAME, TEXT), ASKS)
        self.assertEqual(read((1, 1), "a 0 1\n"), [((0,), (0, 1))])
        self.assertEqual(read((1, 8), "h 1 0\n"), [((7,), (1, 0))])
        self.assertEqual(read((5, 3), "cbabc 5 4\n"), [((2, 1, 0, 1, 2), (5, 4))])

    def check(self, game, asks):
        text = shown(game, asks)
        self.assertEqual(text, plain_shown(asks))
        self.assertIs(type(text), str)
        self.assertTrue(is_written(game, text))
        told = read(game, text)
        self.assertEqual(told, asks)
        self.assertIs(type(told), list)
        for ask in told:
            self.assertEqual([type(ask), type(ask[0]), type(ask[1])], [tuple, tuple, tuple])
            self.assertEqual({type(number) for number in ask[0] + ask[1]}, {int})

    def test_every_ask_of_small_games(self):
        for game in SMALL_GAMES:
            for ask in every_ask(game):
                self.check(game, [ask])
                self.check(game, [ask, ask])

    def test_up_to_eight_asks_of_every_game(self):
        for game in ALL_GAMES:
            for many in range(9):
                self.check(game, some_asks(game, many, many, True))
                self.check(game, some_asks(game, many, many, False))

    def test_nine_lines_are_too_many(self):
        self.assertEqual(read(GAME, "ab 1 0\n" * 8), [((0, 1), (1, 0))] * 8)
        self.assertRaises(BadText, read, GAME, "ab 1 0\n" * 9)
        self.assertRaises(BadText, read, GAME, "ab 1 0\n" * 20)
        self.assertRaises(BadText, read, GAME, "\n" * 9)

    def test_all_else_written_out(self):
        for text in [
            "ab 1 0", "ab 1 0\ncc 0 2", "\n", "\nab 1 0\n", "ab 1 0\n\n", "ab 1 0\n\ncc 0 2\n", " ab 1 0\n",
            "ab 1 0 \n", "ab  1 0\n", "ab 1  0\n", "ab\t1 0\n", "ab 1 0\r\n", "ab 1 0\r", "ab 1 0\x85", "ab 1 0\u2028",
            "ab10\n", "ab 10\n", "ab1 0\n", "ab 1\n", "ab\n", "1 0\n", " 1 0\n", "ab  0\n", "ab 1 \n", "ab 1 0 0\n", "a 1 0\n",
            "abc 1 0\n", "ad 1 0\n", "AB 1 0\n", "01 1 0\n", "ab 3 0\n", "ab 0 3\n", "ab -1 0\n", "ab +1 0\n",
            "ab 01 0\n", "ab 1 00\n", "ab 1.0 0\n", "ab a b\n", "ab \u0661 0\n", "ab \xb2 0\n", "ab 1,0\n", "ab 1 0\nx",
            "# ab\nab 1 0\n", "\ufeffab 1 0\n", "a b 1 0\n", " ", "a", "  \n", " 0 0\n", "ab 1 0ab 1 0\n",
        ]:
            with self.subTest(text=text):
                self.assertFalse(is_written(GAME, text))
                self.assertRaises(BadText, read, GAME, text)

    def test_every_text_that_is_near(self):
        for text in ["ab 1 0\n", TEXT]:
            for at, signs in product(range(len(text) + 1), SIGNS):
                for near in [text[:at] + signs + text[at:], text[:at] + signs + text[at + 1:]]:
                    if is_written(GAME, near):
                        self.assertEqual(plain_shown(read(GAME, near)), near)
                    else:
                        with self.subTest(near=near):
                            self.assertRaises(BadText, read, GAME, near)

    def test_every_short_text(self):
        for size in range(7):
            for signs in product("ab 01\n", repeat=size):
                text = "".join(signs)
                if is_written((1, 2), text):
                    self.assertEqual(plain_shown(read((1, 2), text)), text)
                else:
                    self.assertRaises(BadText, read, (1, 2), text)

    def test_asks_of_another_game(self):
        for game in ALL_GAMES:
            for text in [
                "a 0 0\n", "h 0 0\n", "a 1 1\n", "a 2 0\n", "bb 0 0\n", "cc 2 0\n", "abc 3 3\n", "aaaaa 5 5\n",
            ]:
                if is_written(game, text):
                    self.assertEqual(plain_shown(read(game, text)), text)
                else:
                    self.assertRaises(BadText, read, game, text)

    def test_what_is_no_text(self):
        for thing in NO_PLAIN_THINGS + [["ab 1 0\n"], ("ab 1 0\n",), b"ab 1 0\n", ASKS, {"ab 1 0\n": 1}]:
            if thing != "":
                with self.subTest(thing=thing):
                    self.assertRaises(BadText, read, GAME, thing)

    def test_no_game_goes_before_no_text(self):
        for game in NO_GAMES:
            with self.subTest(game=game):
                self.assertRaises(BadGame, read, game, "")
                self.assertRaises(BadGame, read, game, "x")
                self.assertRaises(BadGame, read, game, None)


if __name__ == "__main__":
    unittest.main()
