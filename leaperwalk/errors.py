"""The refusals of the program, one class for each."""


class LeapError(ValueError):
    pass


class BadFloor(LeapError):
    pass


class BadLeap(LeapError):
    pass


class NoCell(LeapError):
    pass


class BadNumber(LeapError):
    pass


class TooBig(LeapError):
    pass


class BadText(LeapError):
    pass
