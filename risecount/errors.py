"""The refusals of the program, one class for each."""


class RiseError(ValueError):
    """Any refusal."""


class NoThing(RiseError):
    """A number that is no thing of the order, or things that do not stand rising."""


class Looped(RiseError):
    """A thing would lie under itself."""


class NoOrder(RiseError):
    """A text that has not the form of an order."""


class NoNumber(RiseError):
    """A number by which nothing is told."""


class TooGreat(RiseError):
    """More would have to be told or gone through than is promised."""


class NoGoing(RiseError):
    """A tuple that is no going of the order."""


class NoRow(RiseError):
    """A tuple that is no row of the going."""


class NoFilling(RiseError):
    """A tuple that is no filling that rises."""


class NotLoose(RiseError):
    """Two things that are not loose."""


class NotForest(RiseError):
    """An order that is no forest."""


class NoShape(RiseError):
    """A tuple that is no shape."""


class NoName(RiseError):
    """A name that stands for nothing."""


class NoLine(RiseError):
    """A line that a desk does not know."""
