"""The refusals. Each stands straight under GuessError, so that none is taken for another."""


class GuessError(ValueError):
    pass


class BadGame(GuessError):
    pass


class BadCode(GuessError):
    pass


class BadAsk(GuessError):
    def __init__(self, at):
        GuessError.__init__(self, f"no ask at place {at}")
        self.at = at


class Clash(GuessError):
    pass


class TooBig(GuessError):
    pass


class BadText(GuessError):
    pass
