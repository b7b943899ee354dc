"""Two orders put together: side by side, or the second one above the first one, by plain or by strict ties."""

from risecount.errors import TooGreat
from risecount.orders import are_too_many


def side_by_side(one, other):
    refuse_too_many(one, other)
    return one + with_more(other, len(one))


def above_plain(one, other):
    refuse_too_many(one, other)
    below = tuple(range(len(one)))
    return one + tuple([below + row for row in with_more(other, len(one))])


def above_strict(one, other):
    refuse_too_many(one, other)
    # The things below have the greater names here, so they stand last in the rows, too.
    below = tuple(range(len(other), len(other) + len(one)))
    return tuple([row + below for row in other]) + with_more(one, len(other))


def refuse_too_many(one, other):
    if are_too_many(len(one) + len(other)):
        raise TooGreat("more than nine things")


def with_more(order, more):
    """The rows of the order, each thing in them with a number greater by this."""
    return tuple([row_with_more(row, more) for row in order])


def row_with_more(row, more):
    return tuple([thing + more for thing in row])
