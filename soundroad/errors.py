"""The refusals of the program, one class for each."""


class RoadError(ValueError):
    pass


class BadBytes(RoadError):
    pass


class NoLine(RoadError):
    pass


class BadSounds(RoadError):
    pass
