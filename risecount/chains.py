"""Chains of downsets, each with all things of the one ahead and at least one more, those more being calm."""

from risecount.downsets import downsets, is_calm
from risecount.goings import added


def chain_table(order):
    table = []
    # Downsets are kept with a mark, a sum of one power of two for each thing, to be compared fast.
    ahead = []
    calm = {}
    for things in downsets(order):
        mark = mark_of(things)
        counts = chains_to(order, mark, ahead, calm) if things else [1] + [0] * len(order)
        ahead.append((mark, counts))
        table.append((things, tuple(counts)))
    return tuple(table)


def mark_of(things):
    mark = 0
    power = 1
    for thing in range(max(things, default=-1) + 1):
        if thing in things:
            mark = mark + power
        power = power * 2
    return mark


def things_of(mark):
    things = []
    thing = 0
    while mark > 0:
        if mark % 2 == 1:
            things.append(thing)
        mark = mark // 2
        thing = thing + 1
    return tuple(things)


def chains_to(order, mark, ahead, calm):
    """How many chains of 0, 1, .. steps there are to a downset, by those to the lesser ones ahead of it."""
    counts = [0] * (len(order) + 1)
    for lower, lower_counts in ahead:
        if lower & mark == lower and is_calm_mark(order, mark - lower, calm):
            counts = added(counts, lower_counts)
    # Nothing is lost at the end: each step takes a thing, so no lesser downset is reached by as many steps.
    return [0] + counts[:-1]


def is_calm_mark(order, mark, calm):
    # The same things are left over between many two downsets, so what was found is kept.
    if mark not in calm:
        calm[mark] = is_calm(order, things_of(mark))
    return calm[mark]
