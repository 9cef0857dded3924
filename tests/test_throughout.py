"""Promise [1], as it holds throughout: nothing is changed or kept, and the first refusal is the one that is told."""

import unittest
from copy import deepcopy

from guesscode.asks import needless, settled, what_fits, why_clash
from guesscode.codes import all_answers, all_codes, answer, checked_game
from guesscode.errors import BadAsk, BadCode, BadGame, Clash, GuessError
from guesscode.naming import least_guess_like, renamed
from guesscode.plans import a_plan, fewest_asks
from guesscode.settling import alike_by, fewest_settling, settle_all
from guesscode.splits import best_guess, foe_answer, played, split
from guesscode.texts import read, shown

GAME = (2, 3)
FITTING = [((0, 0), (1, 0)), ((0, 1), (1, 0)), ((0, 0), (1, 0))]
CLASHING = [((0, 1), (1, 0)), ((0, 1), (0, 1))]
SPOILT = [((0, 1), (1, 0)), ((0, 3), (0, 1))]
LISTS_OF_ASKS = [[], FITTING, CLASHING, SPOILT, [((0, 1), (1, 0))] * 9, [[[0, 1], [1, 0]]]]

LISTS_OF_GUESSES = [[], [(0, 1)], [(0, 1), (0, 2)], [(0, 1), (0, 3)], [(0, 1)] * 9, [[0, 1]]]

BY_ASKS = [what_fits, why_clash, needless, settled, best_guess, fewest_asks, a_plan, shown]
BY_ASKS_AND_GUESS = [split, foe_answer]
BY_GUESSES = [settle_all, alike_by]

TOLD_LISTS = [
    lambda: all_codes(GAME),
    lambda: all_answers(GAME),
    lambda: what_fits(GAME, []),
    lambda: what_fits(GAME, [((0, 0), (0, 0))]),
    lambda: what_fits(GAME, CLASHING),
    lambda: why_clash(GAME, CLASHING),
    lambda: needless(GAME, []),
    lambda: needless(GAME, FITTING),
    lambda: split(GAME, [], (0, 1)),
    lambda: split(GAME, FITTING, (0, 1)),
    lambda: played(GAME, (2, 1)),
    lambda: played((1, 1), (0,)),
    lambda: fewest_settling(GAME),
    lambda: fewest_settling((1, 1)),
    lambda: renamed(GAME, [], (0, 1), (0, 1, 2)),
    lambda: renamed(GAME, FITTING, (0, 1), (0, 1, 2)),
    lambda: renamed(GAME, FITTING, (1, 0), (2, 0, 1)),
    lambda: read(GAME, ""),
    lambda: read(GAME, "ab 1 0\ncc 0 0\n"),
]


def outcome(call, *handed):
    try:
        return call(*handed)
    except GuessError as refusal:
        return type(refusal)


class NothingIsChanged(unittest.TestCase):
    def check_unchanged(self, call, *handed):
        before = deepcopy(handed)
        first = outcome(call, *handed)
        self.assertEqual(handed, before)
        self.assertEqual(outcome(call, *handed), first)
        self.assertEqual(handed, before)

    def test_asks_stay_as_they_were(self):
        for asks in LISTS_OF_ASKS:
            for call in BY_ASKS:
                self.check_unchanged(call, GAME, deepcopy(asks))
            for call in BY_ASKS_AND_GUESS:
                self.check_unchanged(call, GAME, deepcopy(asks), (0, 1))
            self.check_unchanged(renamed, GAME, deepcopy(asks), (1, 0), (1, 2, 0))

    def test_guesses_stay_as_they_were(self):
        for guesses in LISTS_OF_GUESSES:
            for call in BY_GUESSES:
                self.check_unchanged(call, GAME, deepcopy(guesses))

    def test_what_is_refused_stays_as_it_was(self):
        for thing in [[2, 3], [], {2: 3}, {"places": 2}, [[0, 1]]]:
            for call in [checked_game, all_codes, all_answers, fewest_settling]:
                self.check_unchanged(call, deepcopy(thing))
            self.check_unchanged(answer, GAME, deepcopy(thing), deepcopy(thing))
            self.check_unchanged(split, GAME, [], deepcopy(thing))
            self.check_unchanged(played, GAME, deepcopy(thing))
            self.check_unchanged(least_guess_like, GAME, deepcopy(thing))
            self.check_unchanged(renamed, GAME, [], deepcopy(thing), deepcopy(thing))
            self.check_unchanged(read, GAME, deepcopy(thing))


class NothingIsKept(unittest.TestCase):
    def test_lists_that_are_told_are_new_ones(self):
        for at, call in enumerate(TOLD_LISTS):
            with self.subTest(at=at):
                told = call()
                self.assertIs(type(told), list)
                at_first = list(told)
                told.append("spoilt")
                self.assertEqual(call(), at_first)
                told.clear()
                self.assertEqual(call(), at_first)
                self.assertIsNot(call(), told)

    def test_spoiling_one_list_spoils_no_other_call(self):
        expected = [call() for call in TOLD_LISTS]
        for call in TOLD_LISTS:
            told = call()
            told.reverse()
            told.append(None)
        self.assertEqual([call() for call in TOLD_LISTS], expected)

    def test_told_lists_are_not_the_asks_handed_in(self):
        asks = []
        for call in [what_fits, needless]:
            call(GAME, asks).append("spoilt")
            self.assertEqual(asks, [])
        for asks in [[], list(FITTING)]:
            before = list(asks)
            renamed(GAME, asks, (0, 1), (0, 1, 2)).append("spoilt")
            self.assertEqual(asks, before)

    def test_asks_changed_between_calls_are_read_anew(self):
        asks = [((0, 0), (0, 0))]
        self.assertEqual(what_fits(GAME, asks), [(1, 1), (1, 2), (2, 1), (2, 2)])
        asks.append(((1, 1), (2, 0)))
        self.assertEqual(what_fits(GAME, asks), [(1, 1)])
        self.assertEqual(settled(GAME, asks), (1, 1))
        asks[1] = ((0, 0), (2, 0))
        self.assertEqual(what_fits(GAME, asks), [])
        self.assertEqual(why_clash(GAME, asks), [0, 1])

    def test_plans_are_made_anew(self):
        asks = []
        self.assertEqual(fewest_asks(GAME, asks), 2)
        asks.append(((0, 1), (0, 2)))
        self.assertEqual(fewest_asks(GAME, asks), 0)
        self.assertEqual(a_plan(GAME, asks), (1, 0))
        self.assertEqual(fewest_asks((1, 3), []), 2)
        asks.clear()
        self.assertEqual(fewest_asks(GAME, asks), 2)

    def test_guesses_changed_between_calls_are_read_anew(self):
        guesses = [(0, 1)]
        self.assertEqual(alike_by(GAME, guesses), ((0, 0), (0, 2)))
        guesses.append((0, 2))
        self.assertIs(settle_all(GAME, guesses), True)
        guesses.clear()
        self.assertEqual(alike_by(GAME, guesses), ((0, 0), (0, 1)))


class TrueAndFalseAreNoNumbers(unittest.TestCase):
    def test_in_every_place(self):
        for game in [(True, 1), (1, True), (True, True)]:
            self.assertRaises(BadGame, checked_game, game)
        for code in [(True, 1), (1, False)]:
            self.assertRaises(BadCode, answer, GAME, code, (1, 1))
            self.assertRaises(BadCode, answer, GAME, (1, 1), code)
            self.assertRaises(BadCode, played, GAME, code)
            self.assertRaises(BadAsk, what_fits, GAME, [(code, (1, 0))])
            self.assertRaises(BadAsk, what_fits, GAME, [((1, 1), code)])
            self.assertRaises(BadAsk, fewest_asks, GAME, [(code, (1, 0))])
            self.assertRaises(BadAsk, a_plan, GAME, [((1, 1), code)])
            self.assertRaises(BadAsk, settle_all, GAME, [code])
            self.assertRaises(BadAsk, alike_by, GAME, [(1, 1), code])
            self.assertRaises(BadAsk, shown, GAME, [((1, 1), code)])
            self.assertRaises(BadCode, least_guess_like, GAME, code)
        for places, colours in [((False, True), (0, 1, 2)), ((0, True), (0, 1, 2)), ((0, 1), (0, True, 2))]:
            self.assertRaises(BadCode, renamed, GAME, [], places, colours)


class TheFirstRefusalIsTold(unittest.TestCase):
    def test_bad_game_goes_before_all(self):
        for game in [None, (2, 9), [2, 3]]:
            for asks in [None, SPOILT, CLASHING]:
                for call in BY_ASKS:
                    self.assertRaises(BadGame, call, game, asks)
                for call in BY_ASKS_AND_GUESS:
                    self.assertRaises(BadGame, call, game, asks, None)
                    self.assertRaises(BadGame, call, game, asks, (0, 1))
            self.assertRaises(BadGame, answer, game, None, None)
            self.assertRaises(BadGame, played, game, None)

    def test_bad_ask_goes_before_bad_code_and_clash(self):
        for asks in [None, SPOILT, CLASHING + [None], CLASHING * 5]:
            for call in BY_ASKS_AND_GUESS:
                self.assertRaises(BadAsk, call, GAME, asks, None)
                self.assertRaises(BadAsk, call, GAME, asks, (0, 3))
                self.assertRaises(BadAsk, call, GAME, asks, (0, 1))
            for call in [settled, best_guess]:
                self.assertRaises(BadAsk, call, GAME, asks)

    def test_bad_code_goes_before_clash(self):
        for guess in [None, (0, 3), (0, True), [0, 1]]:
            self.assertRaises(BadCode, foe_answer, GAME, CLASHING, guess)
        self.assertRaises(Clash, foe_answer, GAME, CLASHING, (0, 1))


if __name__ == "__main__":
    unittest.main()
