"""Downsets: things of an order that have with each one all that lie under it; and calm things."""

from risecount.errors import NoThing
from risecount.goings import ways_on
from risecount.orders import is_thing, ties_of


def downsets(order):
    # What can stand ahead in a going is just what has with each thing all that lie under it.
    return tuple(sorted(ways_on(order), key=lambda things: (len(things), things)))


def is_calm(order, things):
    if not all([is_thing(thing, len(order)) for thing in things]):
        raise NoThing("a number that is no thing of the order")
    return not any([a > b and a in things and b in things for a, b in ties_of(order)])
