"""Forests: orders in which the things above any one thing are all tied; their goings by one product."""

from risecount.cutting import loose_pairs
from risecount.errors import NotForest
from risecount.orders import part_of
from risecount.products import goings_by_parts
from risecount.turned import upside_down


def is_forest(order):
    return not any([loose_pairs(part_of(order, above)) for above in upside_down(order)])


def sizes_of(order):
    return tuple([1 + len(row) for row in order])


def forest_goings(order):
    if not is_forest(order):
        raise NotForest("the order is no forest")
    return goings_by_parts(sizes_of(order))
