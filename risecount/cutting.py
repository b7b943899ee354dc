"""Loose pairs of an order, and the two orders into which it is cut at one."""

from risecount.errors import NotLoose
from risecount.orders import put_under, refuse_strangers


def loose_pairs(order):
    pairs = []
    for a in range(len(order)):
        pairs.extend([(a, b) for b in range(a + 1, len(order)) if are_loose(order, a, b)])
    return tuple(pairs)


def are_loose(order, a, b):
    return a != b and a not in order[b] and b not in order[a]


def cut(order, a, b):
    refuse_strangers(len(order), a, b)
    if not are_loose(order, a, b):
        raise NotLoose("two things that are not loose")
    return (put_under(order, a, b), put_under(order, b, a))
