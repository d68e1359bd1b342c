"""The refusals: one class for each, all straight under TurnError."""


class TurnError(ValueError):
    pass


class NoTurn(TurnError):
    pass


class NoFit(TurnError):
    pass


class NoRounds(TurnError):
    pass


class NoNumber(TurnError):
    pass


class NoRoot(TurnError):
    pass


class TooMany(TurnError):
    pass


class NoKind(TurnError):
    pass


class NoText(TurnError):
    pass


class NoName(TurnError):
    pass


class NoRow(TurnError):
    pass
