"""The refusals of the program, one class for each."""


class RollError(ValueError):
    pass


class BadAmount(RollError):
    pass


class BadShare(RollError):
    pass


class BadText(RollError):
    pass


class BadMonth(RollError):
    pass


class BadYear(RollError):
    pass


class BadRule(RollError):
    pass


class BadBook(RollError):
    pass


class NoYear(RollError):
    pass


class BadDay(RollError):
    pass


class BadEntry(RollError):
    pass


class NoMark(RollError):
    pass


class NoPerson(RollError):
    pass


class TooMany(RollError):
    pass


class BadClose(RollError):
    pass


class BadLine(RollError):
    pass
