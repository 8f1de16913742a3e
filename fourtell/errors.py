"""The refusals, one class for each."""


class TellError(ValueError):
    pass


class NoPack(TellError):
    pass


class NoHand(TellError):
    pass


class NoRow(TellError):
    pass


class NoCard(TellError):
    pass


class NoNumber(TellError):
    pass


class NoPlan(TellError):
    pass


class NoNote(TellError):
    pass
