"""Promise [1]: the classes of refusals."""

import unittest

from guesscode.asks import needless, settled, what_fits, why_clash
from guesscode.codes import all_answers, all_codes, answer, checked_game
from guesscode.errors import BadAsk, BadCode, BadGame, BadText, Clash, GuessError, TooBig
from guesscode.naming import least_guess_like, renamed
from guesscode.plans import a_plan, fewest_asks
from guesscode.settling import alike_by, fewest_settling, settle_all
from guesscode.splits import best_guess, foe_answer, played, split
from guesscode.texts import read, shown

REFUSALS = [BadGame, BadCode, BadAsk, Clash, TooBig, BadText]
GAME = (2, 3)
CLASHING = [((0, 1), (2, 2))]

REFUSED = [
    (BadGame, lambda: checked_game(None)),
    (BadGame, lambda: all_codes(None)),
    (BadGame, lambda: all_answers(None)),
    (BadGame, lambda: answer(None, (0, 0), (0, 0))),
    (BadGame, lambda: what_fits(None, [])),
    (BadGame, lambda: why_clash(None, [])),
    (BadGame, lambda: needless(None, [])),
    (BadGame, lambda: settled(None, [])),
    (BadGame, lambda: split(None, [], (0, 0))),
    (BadGame, lambda: foe_answer(None, [], (0, 0))),
    (BadGame, lambda: best_guess(None, [])),
    (BadGame, lambda: played(None, (0, 0))),
    (BadGame, lambda: fewest_asks(None, [])),
    (BadGame, lambda: a_plan(None, [])),
    (BadGame, lambda: settle_all(None, [])),
    (BadGame, lambda: alike_by(None, [])),
    (BadGame, lambda: fewest_settling(None)),
    (BadGame, lambda: renamed(None, [], (0, 1), (0, 1, 2))),
    (BadGame, lambda: least_guess_like(None, (0, 0))),
    (BadGame, lambda: shown(None, [])),
    (BadGame, lambda: read(None, "")),
    (BadCode, lambda: answer(GAME, None, (0, 0))),
    (BadCode, lambda: answer(GAME, (0, 0), None)),
    (BadCode, lambda: split(GAME, [], None)),
    (BadCode, lambda: foe_answer(GAME, [], None)),
    (BadCode, lambda: played(GAME, None)),
    (BadCode, lambda: renamed(GAME, [], None, (0, 1, 2))),
    (BadCode, lambda: renamed(GAME, [], (0, 1), None)),
    (BadCode, lambda: least_guess_like(GAME, None)),
    (BadAsk, lambda: what_fits(GAME, None)),
    (BadAsk, lambda: why_clash(GAME, None)),
    (BadAsk, lambda: needless(GAME, None)),
    (BadAsk, lambda: settled(GAME, None)),
    (BadAsk, lambda: split(GAME, None, (0, 0))),
    (BadAsk, lambda: foe_answer(GAME, None, (0, 0))),
    (BadAsk, lambda: best_guess(GAME, None)),
    (BadAsk, lambda: fewest_asks(GAME, None)),
    (BadAsk, lambda: a_plan(GAME, None)),
    (BadAsk, lambda: settle_all(GAME, None)),
    (BadAsk, lambda: alike_by(GAME, None)),
    (BadAsk, lambda: renamed(GAME, None, (0, 1), (0, 1, 2))),
    (BadAsk, lambda: shown(GAME, None)),
    (Clash, lambda: settled(GAME, CLASHING)),
    (Clash, lambda: foe_answer(GAME, CLASHING, (0, 0))),
    (Clash, lambda: best_guess(GAME, CLASHING)),
    (Clash, lambda: fewest_asks(GAME, CLASHING)),
    (Clash, lambda: a_plan(GAME, CLASHING)),
    (TooBig, lambda: fewest_asks((3, 3), [])),
    (TooBig, lambda: a_plan((3, 3), [])),
    (TooBig, lambda: fewest_settling((3, 3))),
    (BadText, lambda: read(GAME, None)),
    (BadText, lambda: read(GAME, "ab 1 0")),
]

BY_ASKS = [
    what_fits, why_clash, needless, settled, best_guess, fewest_asks, a_plan, shown,
    lambda game, asks: split(game, asks, (0, 0)),
    lambda game, asks: foe_answer(game, asks, (0, 0)),
    lambda game, asks: renamed(game, asks, (0, 1), (0, 1, 2)),
]
BY_GUESSES = [settle_all, alike_by]


class Refusals(unittest.TestCase):
    def test_all_stand_under_guess_error(self):
        self.assertTrue(issubclass(GuessError, ValueError))
        for refusal in REFUSALS:
            self.assertTrue(issubclass(refusal, GuessError), refusal)
            self.assertIsNot(refusal, GuessError)

    def test_each_stands_straight_under_guess_error(self):
        self.assertEqual(GuessError.__bases__, (ValueError,))
        for refusal in REFUSALS:
            self.assertEqual(refusal.__bases__, (GuessError,))

    def test_none_stands_under_another(self):
        for one in REFUSALS:
            for other in REFUSALS:
                self.assertEqual(issubclass(one, other), one is other, (one, other))

    def test_each_is_taken_by_its_own_class_and_by_guess_error_alone(self):
        for at, (refusal, call) in enumerate(REFUSED):
            with self.subTest(at=at, refusal=refusal):
                with self.assertRaises(GuessError) as taken:
                    call()
                classes = [one for one in REFUSALS if isinstance(taken.exception, one)]
                self.assertEqual(classes, [refusal])

    def test_bad_ask_has_its_at(self):
        calls = [(call, ((0, 1), (1, 0))) for call in BY_ASKS] + [(call, (0, 1)) for call in BY_GUESSES]
        for call, good in calls:
            for at in range(6):
                with self.assertRaises(BadAsk) as taken:
                    call(GAME, [good] * at + [None, good, None])
                self.assertEqual(taken.exception.at, at)
                self.assertIs(type(taken.exception.at), int)


if __name__ == "__main__":
    unittest.main()
