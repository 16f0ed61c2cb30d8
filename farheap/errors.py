"""The errors of the program."""


class FarheapError(ValueError):
    """The base class of all errors of the program."""


class Unknown(FarheapError):
    """There is no such thing as the arguments name."""


class Empty(FarheapError):
    """There is nothing where a reference is needed."""


class NotNear(FarheapError):
    """The reference is far where a near one is needed."""


class NotFar(FarheapError):
    """The reference is near where a far one is needed."""
