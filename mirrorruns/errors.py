"""The refusals: one class each, all straight under RowError, each made of a text."""


class RowError(ValueError):
    pass


class NoRow(RowError):
    pass


class NoCount(RowError):
    pass


class TooLong(RowError):
    pass


class TooMany(RowError):
    pass


class NoReaches(RowError):
    pass


class NoLine(RowError):
    pass


class Bare(RowError):
    pass


class NoLengths(RowError):
    pass


class NoMirror(RowError):
    pass


class NoNumber(RowError):
    pass


class NoSign(RowError):
    pass


class NoMiddle(RowError):
    pass
