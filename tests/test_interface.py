"""Promise [1] over the whole interface: its names and arguments, and of several refusals the first one named."""

import unittest
from copy import deepcopy
from inspect import signature
from itertools import product

from guesscode import asks, codes, errors, naming, plans, settling, splits, texts
from guesscode.errors import BadAsk, BadCode, BadGame, BadText, Clash, GuessError, TooBig

# Each function with its arguments, and its refusals in the order in which the document names them.
INTERFACE = [
    (codes, "checked_game", ["game"], [BadGame]),
    (codes, "all_codes", ["game"], [BadGame]),
    (codes, "all_answers", ["game"], [BadGame]),
    (codes, "answer", ["game", "hidden", "guess"], [BadGame, BadCode]),
    (asks, "what_fits", ["game", "asks"], [BadGame, BadAsk]),
    (asks, "why_clash", ["game", "asks"], [BadGame, BadAsk]),
    (asks, "needless", ["game", "asks"], [BadGame, BadAsk]),
    (asks, "settled", ["game", "asks"], [BadGame, BadAsk, Clash]),
    (splits, "split", ["game", "asks", "guess"], [BadGame, BadAsk, BadCode]),
    (splits, "foe_answer", ["game", "asks", "guess"], [BadGame, BadAsk, BadCode, Clash]),
    (splits, "best_guess", ["game", "asks"], [BadGame, BadAsk, Clash]),
    (splits, "played", ["game", "hidden"], [BadGame, BadCode]),
    (plans, "fewest_asks", ["game", "asks"], [BadGame, BadAsk, Clash, TooBig]),
    (plans, "a_plan", ["game", "asks"], [BadGame, BadAsk, Clash, TooBig]),
    (settling, "settle_all", ["game", "guesses"], [BadGame, BadAsk]),
    (settling, "alike_by", ["game", "guesses"], [BadGame, BadAsk]),
    (settling, "fewest_settling", ["game"], [BadGame, TooBig]),
    (naming, "renamed", ["game", "asks", "places", "colours"], [BadGame, BadAsk, BadCode]),
    (naming, "least_guess_like", ["game", "guess"], [BadGame, BadCode]),
    (texts, "shown", ["game", "asks"], [BadGame, BadAsk]),
    (texts, "read", ["game", "text"], [BadGame, BadText]),
]

# What may be handed in, each with the refusal that is due to it where the function has that refusal.
GAMES = [
    ((2, 3), None), ((2, 4), None), ((4, 2), None), ((3, 3), TooBig), ((2, 5), TooBig), ((4, 4), TooBig),
    (None, BadGame), ((3, 7), BadGame), ([2, 3], BadGame), ((2, True), BadGame), ((2, 2, 2), BadGame),
]


def handed_for(name, game):
    places, colours = game if game in [(2, 3), (2, 4), (4, 2), (3, 3), (2, 5), (4, 4)] else (2, 3)
    code = (0,) * (places - 1) + (1,)
    ask = (code, (places, 0))
    impossible = (code, (places, places))
    return {
        "hidden": [(code, None), (None, BadCode), (list(code), BadCode), ((colours,) * places, BadCode)],
        "guess": [(code, None), (None, BadCode), (code + (0,), BadCode), ((False,) * places, BadCode)],
        "asks": [
            ([], None), ([ask], None), ([ask] * 8, None), ([impossible], Clash), ([ask, (code, (0, 0))], Clash),
            (None, BadAsk), ([None], BadAsk), ([impossible, None], BadAsk), ([ask] * 9, BadAsk),
            ([[list(code), [places, 0]]], BadAsk),
        ],
        "guesses": [([], None), ([code] * 8, None), ((), BadAsk), ([code] * 9, BadAsk), ([code, None], BadAsk),
                    ([list(code)], BadAsk)],
        "places": [(tuple(range(places)), None), (None, BadCode), (list(range(places)), BadCode),
                   ((0,) * places, BadCode)],
        "colours": [(tuple(range(colours)), None), (7, BadCode), ({}, BadCode),
                    (tuple(range(1, colours + 1)), BadCode)],
        "text": [("", None), (None, BadText), ("x", BadText), ([], BadText)],
    }[name]


def every_call(names):
    for game, due in GAMES:
        for rest in product(*[handed_for(name, game) for name in names[1:]]):
            yield [game] + [thing for thing, due_to_it in rest], [due] + [due_to_it for thing, due_to_it in rest]


class Interface(unittest.TestCase):
    def test_names_and_arguments(self):
        for module, name, arguments, refusals in INTERFACE:
            with self.subTest(name=name):
                self.assertEqual(list(signature(vars(module)[name]).parameters), arguments)

    def test_the_classes_of_refusals(self):
        for name in ["GuessError", "BadGame", "BadCode", "BadAsk", "Clash", "TooBig", "BadText"]:
            self.assertTrue(issubclass(vars(errors)[name], GuessError))

    def test_of_several_refusals_the_first_is_told(self):
        seen = {}
        for module, name, arguments, refusals in INTERFACE:
            call = vars(module)[name]
            for handed, due in every_call(arguments):
                expected = next((refusal for refusal in refusals if refusal in due), None)
                told = None
                try:
                    call(*handed)
                except GuessError as refusal:
                    told = type(refusal)
                self.assertEqual(told, expected, (name, handed))
                seen[name, expected] = True
        for module, name, arguments, refusals in INTERFACE:
            for refusal in [None] + refusals:
                self.assertIn((name, refusal), seen)

    def test_nothing_that_is_handed_in_is_changed(self):
        for module, name, arguments, refusals in INTERFACE:
            call = vars(module)[name]
            for handed, due in every_call(arguments):
                before = deepcopy(handed)
                try:
                    call(*handed)
                except GuessError:
                    pass
                self.assertEqual(handed, before, name)


if __name__ == "__main__":
    unittest.main()
