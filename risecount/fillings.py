"""Fillings: a number from 1 to k for each thing of an order, rising along its ties."""

from risecount.errors import NoNumber, TooGreat
from risecount.orders import ties_of

MOST_TUPLES = 5000


def rises(order, filling, k):
    if k < 0 or len(filling) != len(order):
        return False
    if not all([1 <= number <= k for number in filling]):
        return False
    return all([tie_rises(filling, a, b) for a, b in ties_of(order)])


def tie_rises(filling, a, b):
    # The tie is strict where the thing below has the greater name.
    if a > b:
        return filling[a] < filling[b]
    return filling[a] <= filling[b]


def refuse_below_0(k):
    if k < 0:
        raise NoNumber("k is below 0")


def count_plain(order, k):
    refuse_below_0(k)
    many = tuples_many(len(order), k)
    if many > MOST_TUPLES:
        raise TooGreat("too many tuples to go through")
    return sum([1 for number in range(many) if rises(order, tuple_at(len(order), k, number), k)])


def tuples_many(n, k):
    many = 1
    for place in range(n):
        many = many * k
    return many


def tuple_at(n, k, number):
    """The tuple of n numbers from 1 to k whose figures to the base k, the lowest first, make up the number."""
    numbers = []
    for place in range(n):
        numbers.append(number % k + 1)
        number = number // k
    return tuple(numbers)
