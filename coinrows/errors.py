"""The refusals, one class for each kind."""


class CoinError(ValueError):
    pass


class NoNumber(CoinError):
    pass


class NoRule(CoinError):
    pass


class NoRow(CoinError):
    pass


class NoTurn(CoinError):
    pass


class NoBoard(CoinError):
    pass


class NoNote(CoinError):
    pass
