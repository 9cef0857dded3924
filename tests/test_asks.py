"""Promises [4] and [5]: asks, what fits them, clashes, and needless asks."""

import unittest
from itertools import product

from guesscode.asks import needless, settled, what_fits, why_clash
from guesscode.errors import BadAsk, BadGame, Clash
from guesscode.naming import renamed
from guesscode.plans import a_plan, fewest_asks
from guesscode.splits import best_guess, foe_answer, split
from guesscode.texts import shown
from tests.helper import (
    NO_ASKS, NO_GAMES, NO_LISTS, every_ask, plain_answer, plain_codes, plain_fits, plain_needless, plain_why_clash,
    some_asks)

GAME = (2, 3)
ASK = ((0, 1), (1, 0))

TAKE_ASKS = [
    what_fits, why_clash, needless, settled, best_guess, fewest_asks, a_plan, shown,
    lambda game, asks: split(game, asks, (0, 0)),
    lambda game, asks: foe_answer(game, asks, (0, 0)),
    lambda game, asks: renamed(game, asks, (0, 1), (0, 1, 2)),
]


def every_pair_of_asks(game):
    return [list(pair) for pair in product(every_ask(game), repeat=2)]


class WhatAreAsks(unittest.TestCase):
    def check_refused(self, asks, at):
        for take in TAKE_ASKS:
            with self.assertRaises(BadAsk) as taken:
                take(GAME, asks)
            self.assertEqual(taken.exception.at, at)

    def test_no_lists(self):
        for asks in NO_LISTS:
            with self.subTest(asks=asks):
                self.check_refused(asks, 0)

    def test_nine_asks_are_too_many(self):
        self.check_refused([ASK] * 9, 0)
        self.check_refused([ASK] * 20, 0)
        for take in TAKE_ASKS:
            self.assertRaises(BadAsk, take, GAME, [ASK] * 8 + [None])

    def test_eight_asks_are_asks(self):
        self.assertEqual(what_fits(GAME, [ASK] * 8), [(0, 0), (0, 2), (1, 1), (2, 1)])
        self.assertIsNone(why_clash(GAME, [ASK] * 8))
        self.assertIsNone(settled(GAME, [ASK] * 8))

    def test_what_is_no_ask(self):
        for ask in NO_ASKS:
            with self.subTest(ask=ask):
                self.check_refused([ask], 0)

    def test_spoilt_at_each_place(self):
        for at in range(8):
            for ask in [None, [(0, 1), (1, 0)], ((0, 3), (1, 0)), ((0, 1), (3, 0)), ((0, True), (1, 0))]:
                with self.subTest(at=at, ask=ask):
                    asks = [ASK] * 8
                    asks[at] = ask
                    self.check_refused(asks, at)
                    self.check_refused(asks[:at + 1], at)

    def test_the_first_of_several_is_told(self):
        self.check_refused([ASK, ASK, None, ASK, None], 2)
        self.check_refused([ASK, ((0, 1), (0, 3)), ((9, 9), (0, 0)), None], 1)
        self.check_refused([None, None], 0)

    def test_spoilt_behind_a_clash(self):
        self.check_refused([((0, 1), (2, 2)), ((0, 1), (0, 0)), None], 2)

    def test_answers_from_0_to_the_places(self):
        for game in [(1, 1), (1, 8), (2, 3), (3, 2), (5, 2)]:
            guess = (0,) * game[0]
            for right, elsewhere in product(range(-1, game[0] + 2), repeat=2):
                asks = [(guess, (right, elsewhere))]
                with self.subTest(game=game, asks=asks):
                    if 0 <= min(right, elsewhere) and max(right, elsewhere) <= game[0]:
                        self.assertEqual(what_fits(game, asks), plain_fits(game, asks))
                    else:
                        self.assertRaises(BadAsk, what_fits, game, asks)

    def test_guesses_of_another_game(self):
        self.assertRaises(BadAsk, what_fits, (1, 1), [((1,), (0, 0))])
        self.assertRaises(BadAsk, what_fits, (3, 3), [((0, 1), (0, 0))])
        self.assertRaises(BadAsk, what_fits, (1, 3), [((0, 1), (0, 0))])

    def test_what_is_no_game(self):
        for game in NO_GAMES:
            with self.subTest(game=game):
                for take in TAKE_ASKS:
                    self.assertRaises(BadGame, take, game, [])


class WhatFits(unittest.TestCase):
    def test_no_asks(self):
        for game in [(1, 1), (1, 8), (2, 3), (3, 2), (5, 3), (4, 4)]:
            self.assertEqual(what_fits(game, []), plain_codes(game))

    def test_written_out(self):
        self.assertEqual(what_fits(GAME, [((0, 0), (0, 0))]), [(1, 1), (1, 2), (2, 1), (2, 2)])
        self.assertEqual(what_fits(GAME, [((0, 1), (0, 2))]), [(1, 0)])
        self.assertEqual(what_fits(GAME, [((0, 1), (2, 0))]), [(0, 1)])
        self.assertEqual(what_fits(GAME, [((0, 0), (1, 0)), ((0, 1), (1, 0))]), [(0, 2)])
        self.assertEqual(what_fits(GAME, [((0, 1), (1, 1))]), [])
        self.assertEqual(what_fits(GAME, [((0, 1), (2, 2))]), [])

    def test_every_two_asks(self):
        for game in [(1, 3), (2, 2)]:
            for asks in every_pair_of_asks(game):
                self.assertEqual(what_fits(game, asks), plain_fits(game, asks), asks)

    def test_many_asks(self):
        for game in [(2, 8), (3, 3), (4, 2), (4, 4), (5, 3)]:
            for how_many in range(9):
                asks = some_asks(game, how_many, how_many, True)
                fitting = what_fits(game, asks)
                self.assertEqual(fitting, plain_fits(game, asks), asks)
                self.assertIs(type(fitting), list)
                self.assertNotEqual(fitting, [])


class Settled(unittest.TestCase):
    def test_one_code(self):
        self.assertEqual(settled(GAME, [((0, 1), (0, 2))]), (1, 0))
        self.assertEqual(settled(GAME, [((0, 0), (1, 0)), ((0, 1), (1, 0))]), (0, 2))
        self.assertEqual(settled((1, 1), []), (0,))
        self.assertEqual(settled((5, 1), []), (0, 0, 0, 0, 0))
        self.assertIs(type(settled(GAME, [((0, 1), (0, 2))])), tuple)

    def test_several_codes(self):
        self.assertIsNone(settled(GAME, []))
        self.assertIsNone(settled(GAME, [((0, 0), (0, 0))]))
        self.assertIsNone(settled((1, 2), []))

    def test_none(self):
        self.assertRaises(Clash, settled, GAME, [((0, 1), (1, 1))])
        self.assertRaises(Clash, settled, GAME, [((0, 1), (1, 0)), ((0, 1), (0, 1))])
        self.assertRaises(Clash, settled, (1, 1), [((0,), (0, 0))])

    def test_every_two_asks(self):
        for asks in every_pair_of_asks((2, 2)):
            fitting = plain_fits((2, 2), asks)
            if fitting:
                self.assertEqual(settled((2, 2), asks), fitting[0] if len(fitting) == 1 else None, asks)
            else:
                self.assertRaises(Clash, settled, (2, 2), asks)


class WhyClash(unittest.TestCase):
    def test_some_code_fits(self):
        self.assertIsNone(why_clash(GAME, []))
        self.assertIsNone(why_clash((1, 1), []))
        self.assertIsNone(why_clash(GAME, [ASK]))
        self.assertIsNone(why_clash(GAME, [((0, 1), (0, 2)), ((0, 0), (1, 0))]))

    def test_by_one_ask(self):
        self.assertEqual(why_clash(GAME, [((0, 1), (1, 1))]), [0])
        self.assertEqual(why_clash(GAME, [ASK, ASK, ((0, 1), (2, 2)), ASK]), [2])
        self.assertEqual(why_clash(GAME, [ASK, ((0, 1), (0, 0)), ((0, 1), (2, 2)), ((0, 1), (1, 1))]), [2])

    def test_by_two_asks(self):
        self.assertEqual(why_clash(GAME, [((0, 1), (1, 0)), ((0, 1), (0, 1))]), [0, 1])
        self.assertEqual(why_clash(GAME, [((2, 2), (0, 0)), ((0, 1), (2, 0)), ((0, 0), (1, 0)), ((0, 1), (0, 2))]),
                         [1, 3])

    def test_by_three_asks(self):
        self.assertEqual(why_clash(GAME, [((0, 0), (0, 0)), ((0, 1), (1, 0)), ((0, 2), (1, 0))]), [0, 1, 2])
        self.assertEqual(why_clash((3, 2), [((0, 0, 1), (1, 2)), ((0, 1, 0), (1, 2)), ((1, 0, 0), (1, 2))]), [0, 1, 2])
        three = [((0,), (0, 0)), ((1,), (0, 0)), ((2,), (0, 0))]
        self.assertEqual(why_clash((1, 3), [three[0], three[0], three[1], three[1], three[2]]), [0, 2, 4])

    def test_by_all_eight(self):
        asks = [((colour,), (0, 0)) for colour in range(8)]
        self.assertEqual(why_clash((1, 8), asks), [0, 1, 2, 3, 4, 5, 6, 7])
        self.assertIsNone(why_clash((1, 8), asks[:7]))

    def test_several_smallest_choices(self):
        outer = [((0, 0), (0, 0)), ((0, 0), (1, 0))]
        inner = [((0, 1), (0, 1)), ((0, 1), (1, 0))]
        self.assertEqual(why_clash(GAME, [outer[0]] + inner + [outer[1]]), [0, 3])
        self.assertEqual(why_clash(GAME, outer + inner), [0, 1])
        self.assertEqual(why_clash(GAME, [((0, 1), (1, 0)), ((0, 1), (0, 1)), ((0, 1), (0, 2))]), [0, 1])

    def test_fewer_asks_go_before_earlier_ones(self):
        self.assertEqual(why_clash(GAME, [((0, 1), (1, 0)), ((0, 1), (0, 1)), ((0, 1), (1, 1))]), [2])

    def test_every_two_asks(self):
        for game in [(1, 3), (2, 2)]:
            for asks in every_pair_of_asks(game):
                self.assertEqual(why_clash(game, asks), plain_why_clash(game, asks), asks)

    def test_many_asks(self):
        sizes = {}
        for game in [(1, 8), (2, 3), (3, 2), (3, 3), (4, 2)]:
            for seed in range(40):
                asks = some_asks(game, seed, seed % 9, False)
                told = why_clash(game, asks)
                self.assertEqual(told, plain_why_clash(game, asks), asks)
                self.assertIn(type(told), [list, type(None)])
                sizes[len(told or [])] = True
        self.assertTrue({0, 1, 2, 3} <= set(sizes), sizes)


class Needless(unittest.TestCase):
    def test_no_asks(self):
        self.assertEqual(needless(GAME, []), [])
        self.assertEqual(needless((1, 1), []), [])

    def test_one_ask(self):
        self.assertEqual(needless(GAME, [ASK]), [])
        self.assertEqual(needless((1, 1), [((0,), (1, 0))]), [0])

    def test_asks_that_stand_twice(self):
        self.assertEqual(needless(GAME, [ASK, ASK]), [0, 1])
        self.assertEqual(needless(GAME, [ASK, ((0, 0), (1, 0)), ASK]), [0, 2])
        self.assertEqual(needless(GAME, [ASK] * 8), [0, 1, 2, 3, 4, 5, 6, 7])

    def test_asks_that_others_hold(self):
        self.assertEqual(needless(GAME, [((0, 1), (0, 2)), ((0, 0), (1, 0))]), [1])
        self.assertEqual(needless(GAME, [((0, 0), (1, 0)), ((0, 1), (0, 2))]), [0])
        self.assertEqual(needless(GAME, [((0, 1), (0, 2)), ((1, 0), (2, 0))]), [0, 1])

    def test_asks_that_clash(self):
        self.assertEqual(needless(GAME, [((0, 1), (1, 1))]), [])
        self.assertEqual(needless(GAME, [((0, 1), (1, 1)), ASK]), [1])
        self.assertEqual(needless(GAME, [((0, 1), (1, 0)), ((0, 1), (0, 1))]), [])
        self.assertEqual(needless(GAME, [((0, 1), (1, 0)), ((0, 1), (0, 1)), ((0, 1), (0, 2))]), [0, 1, 2])
        self.assertEqual(needless((1, 8), [((colour,), (0, 0)) for colour in range(8)]), [])

    def test_every_two_asks(self):
        for game in [(1, 3), (2, 2)]:
            for asks in every_pair_of_asks(game):
                self.assertEqual(needless(game, asks), plain_needless(game, asks), asks)

    def test_many_asks(self):
        for game in [(2, 3), (3, 3), (4, 2), (4, 4)]:
            for seed in range(18):
                for true_ones in [True, False]:
                    asks = some_asks(game, seed, seed % 9, true_ones)
                    told = needless(game, asks)
                    self.assertEqual(told, plain_needless(game, asks), asks)
                    self.assertIs(type(told), list)


class AnswersBothWays(unittest.TestCase):
    def test_the_hidden_code_always_fits_what_it_answered(self):
        for hidden in plain_codes((3, 2)):
            asks = [(guess, plain_answer(hidden, guess)) for guess in plain_codes((3, 2))]
            self.assertEqual(settled((3, 2), asks), hidden)


if __name__ == "__main__":
    unittest.main()
