"""The errors that the program raises."""


class CarfaxError(ValueError):
    """The base class of all errors."""


class BadNet(CarfaxError):
    """A value is no net."""


class BadCars(CarfaxError):
    """A value is not the cars of a net."""


class BadState(CarfaxError):
    """A value is no sound state."""


class BadCutting(CarfaxError):
    """A value is no cutting of a net."""


class BadMove(CarfaxError):
    """A team has no move with the index."""


class TooLong(CarfaxError):
    """A team has moves left after the most that are made."""
