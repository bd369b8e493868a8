"""The refusals, one class each."""


class HallError(ValueError):
    pass


class BadLine(HallError):
    pass


class NoComer(HallError):
    pass


class NoHouse(HallError):
    pass


class Twice(HallError):
    pass
