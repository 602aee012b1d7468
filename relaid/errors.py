"""The refusals, each a class of its own straight beneath LineError."""


class LineError(ValueError):
    pass


class BadLengths(LineError):
    pass


class BadOrder(LineError):
    pass


class BadTurned(LineError):
    pass


class Outside(LineError):
    pass


class BadText(LineError):
    def __init__(self, at):
        self.at = at


class TooMany(LineError):
    pass


class Unlike(LineError):
    pass


class BadAddress(LineError):
    pass


class BadArches(LineError):
    pass


class Loose(LineError):
    pass


class BadRow(LineError):
    def __init__(self, at):
        self.at = at
