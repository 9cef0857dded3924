"""Plans: what to guess, whatever is answered, until the code is told."""

from guesscode.asks import found_or_clash, what_fits
from guesscode.codes import all_codes, answer_of, small_game


def parts_by_answer(fitting, guess):
    parts = {}
    for code in fitting:
        parts.setdefault(answer_of(code, guess), []).append(code)
    return parts


# One is made for each call, so what it has found is kept no longer than that.
class Planner:
    def __init__(self, codes):
        self.codes = codes
        self.found = {}

    # A plan with the fewest asks, or None where that is more than most.
    def plan_within(self, fitting, most):
        if len(fitting) == 1:
            return fitting[0]
        if most == 0:
            return None
        key = (tuple(fitting), most)
        # The same codes are left by many orders of the same guesses.
        if key not in self.found:
            self.found[key] = self.search(fitting, most)
        return self.found[key]

    def search(self, fitting, most):
        # Fewer asks are tried first, so that each plan within a plan has the fewest too.
        plan = self.plan_within(fitting, most - 1)
        if plan is not None:
            return plan
        for guess in self.codes:
            plan = self.plan_by(fitting, guess, most)
            if plan is not None:
                return plan
        return None

    def plan_by(self, fitting, guess, most):
        parts = parts_by_answer(fitting, guess)
        rows = []
        for given in sorted(parts):
            plan = self.plan_within(parts[given], most - 1)
            if plan is None:
                return None
            rows.append((given, plan))
        return (guess, tuple(rows))


# A tuple of how many asks it takes at the least, and a plan with so many.
def shortest(game, asks):
    fitting = found_or_clash(what_fits(game, asks))
    small_game(game)
    planner = Planner(all_codes(game))
    most = 0
    # To guess one code that fits after the other tells the code, so some plan is found.
    while planner.plan_within(fitting, most) is None:
        most += 1
    return (most, planner.plan_within(fitting, most))


def fewest_asks(game, asks):
    return shortest(game, asks)[0]


def a_plan(game, asks):
    return shortest(game, asks)[1]
