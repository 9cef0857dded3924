"""Promise [1]: the classes of refusals."""

import unittest

from guesscode.asks import needless, settled, what_fits, why_clash
from guesscode.codes import all_answers, all_codes, answer, checked_game
from guesscode.errors import BadAsk, BadCode, BadGame, BadText, Clash, GuessError, TooBig
from guesscode.splits import best_guess, foe_answer, played, split

REFUSALS = [BadGame, BadCode, BadAsk, Clash, TooBig, BadText]
GAME = (2, 3)
CLASHING = [((0, 1), (2, 2))]

REFUSED = [
    (BadGame, lambda: checked_game(None)),
    (BadGame, lambda: all_codes(None)),
    (BadGame, lambda: all_answers(None)),
    (BadGame, lambda: answer(None, (0, 0), (0, 0))),
    (BadGame, lambda: what_fits(None, [])),
    (BadGame, lambda: why_clash(None, [])),
    (BadGame, lambda: needless(None, [])),
    (BadGame, lambda: settled(None, [])),
    (BadGame, lambda: split(None, [], (0, 0))),
    (BadGame, lambda: foe_answer(None, [], (0, 0))),
    (BadGame, lambda: best_guess(None, [])),
    (BadGame, lambda: played(None, (0, 0))),
    (BadCode, lambda: answer(GAME, None, (0, 0))),
    (BadCode, lambda: answer(GAME, (0, 0), None)),
    (BadCode, lambda: split(GAME, [], None)),
    (BadCode, lambda: foe_answer(GAME, [], None)),
    (BadCode, lambda: played(GAME, None)),
    (BadAsk, lambda: what_fits(GAME, None)),
    (BadAsk, lambda: why_clash(GAME, None)),
    (BadAsk, lambda: needless(GAME, None)),
    (BadAsk, lambda: settled(GAME, None)),
    (BadAsk, lambda: split(GAME, None, (0, 0))),
    (BadAsk, lambda: foe_answer(GAME, None, (0, 0))),
    (BadAsk, lambda: best_guess(GAME, None)),
    (Clash, lambda: settled(GAME, CLASHING)),
    (Clash, lambda: foe_answer(GAME, CLASHING, (0, 0))),
    (Clash, lambda: best_guess(GAME, CLASHING)),
]


class Refusals(unittest.TestCase):
    def test_all_stand_under_guess_error(self):
        self.assertTrue(issubclass(GuessError, ValueError))
        for refusal in REFUSALS:
            self.assertTrue(issubclass(refusal, GuessError), refusal)
            self.assertIsNot(refusal, GuessError)

    def test_none_stands_under_another(self):
        for one in REFUSALS:
            for other in REFUSALS:
                self.assertEqual(issubclass(one, other), one is other, (one, other))

    def test_each_is_taken_by_its_own_class_and_by_guess_error_alone(self):
        for at, (refusal, call) in enumerate(REFUSED):
            with self.subTest(at=at, refusal=refusal):
                with self.assertRaises(GuessError) as taken:
                    call()
                classes = [one for one in REFUSALS if isinstance(taken.exception, one)]
                self.assertEqual(classes, [refusal])

    def test_bad_ask_has_its_at(self):
        for at in range(4):
            asks = [((0, 1), (1, 0))] * at + [None] + [((0, 1), (1, 0))] * 2
            with self.assertRaises(BadAsk) as taken:
                what_fits(GAME, asks)
            self.assertEqual(taken.exception.at, at)
            self.assertIs(type(taken.exception.at), int)


if __name__ == "__main__":
    unittest.main()
