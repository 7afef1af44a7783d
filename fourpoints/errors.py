"""The refusals of the program, a class for each."""


class FourPointsError(ValueError):
    pass


class NoText(FourPointsError):
    pass


class NoColumn(FourPointsError):
    pass


class NotHalf(FourPointsError):
    pass


class OutOfTimes(FourPointsError):
    pass


class NoSample(FourPointsError):
    pass


class NoWatch(FourPointsError):
    pass


class NoName(FourPointsError):
    pass


class NotApart(FourPointsError):
    pass
