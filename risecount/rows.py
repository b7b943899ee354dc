"""The rows of a going by k, ordered as tuples and numbered.

Where each number of a row is made greater by the places ahead of it that are no descents, rows become
the choices of n unlike numbers from 1 to a common top. How many choices stand behind a given one is
a sum of chosen(..), one for each of its numbers.
"""

from risecount.counts import chosen
from risecount.errors import NoNumber, NoRow
from risecount.fillings import refuse_below_0
from risecount.goings import descents_of


def rows_many(going, k):
    refuse_below_0(k)
    return chosen(top_of(going, k), len(going))


def top_of(going, k):
    return k + len(going) - 1 - len(descents_of(going))


def rises_ahead(going, place):
    """How many places ahead of this one are no descents."""
    return place - len(descents_of(going[:place + 1]))


def row_at(going, k, number):
    many = rows_many(going, k)
    if not 0 <= number < many:
        raise NoNumber("no row has this number")
    top = top_of(going, k)
    behind = many - 1 - number
    left = top
    row = []
    for place in range(len(going)):
        left = greatest_below(left, len(going) - place, behind)
        behind = behind - chosen(left, len(going) - place)
        row.append(top - left - rises_ahead(going, place))
    return tuple(row)


def greatest_below(bound, m, most):
    """The greatest x below the bound by which chosen(x, m) is at most this; at the bound it is more."""
    low = m - 1
    high = bound
    while high - low > 1:
        middle = (low + high) // 2
        if chosen(middle, m) <= most:
            low = middle
        else:
            high = middle
    return low


def row_number(going, k, row):
    many = rows_many(going, k)
    if not is_row_of(going, k, row):
        raise NoRow("no row of the going")
    top = top_of(going, k)
    behind = 0
    for place, number in enumerate(row):
        behind = behind + chosen(top - number - rises_ahead(going, place), len(row) - place)
    return many - 1 - behind


def is_row_of(going, k, row):
    if len(row) != len(going) or not all([1 <= number <= k for number in row]):
        return False
    descents = descents_of(going)
    return all([step_rises(row, place, place in descents) for place in range(len(row) - 1)])


def step_rises(row, place, strictly):
    if strictly:
        return row[place] < row[place + 1]
    return row[place] <= row[place + 1]
