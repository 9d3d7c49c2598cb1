"""The refusals of arrowhall, one class for each."""


class ArrowError(ValueError):
    pass


class NoHall(ArrowError):
    pass


class NoArrow(ArrowError):
    pass


class NoBox(ArrowError):
    pass


class NoPicture(ArrowError):
    pass


class NoReading(ArrowError):
    pass


class NoThing(ArrowError):
    pass


class NoSending(ArrowError):
    pass
