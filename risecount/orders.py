"""Orders: tuples of rows, row b being the rising tuple of all things that lie under thing b."""

from risecount.errors import Looped, NoThing

MOST_THINGS = 9


def are_too_many(n):
    return n > MOST_THINGS


def is_order(rows):
    if are_too_many(len(rows)):
        return False
    return all([is_row(rows, thing) for thing in range(len(rows))])


def is_row(rows, b):
    # What lies under the row's things is looked up only once they are known to be things.
    row = rows[b]
    return is_rising(row, len(rows)) and b not in row and has_all_below(rows, row)


def is_thing(number, n):
    return 0 <= number < n


def is_rising(things, n):
    """Whether these are some of the things from 0 to n - 1, rising, each once."""
    for place, thing in enumerate(things):
        if not is_thing(thing, n):
            return False
        if place > 0 and things[place - 1] >= thing:
            return False
    return True


def has_all_below(rows, row):
    """Whether with each thing of the row all that lie under it are in the row."""
    for thing in row:
        if not all([lower in row for lower in rows[thing]]):
            return False
    return True


def ties_of(order):
    ties = []
    for b, row in enumerate(order):
        ties.extend([(a, b) for a in row])
    return tuple(sorted(ties))


def bare_ties(order):
    return tuple([tie for tie in ties_of(order) if is_bare(order, tie)])


def is_bare(order, tie):
    lower = tie[0]
    upper = tie[1]
    return not any([lower in order[between] for between in order[upper]])


def order_of(n, ties):
    # NoThing goes ahead of Looped, so all numbers are looked at before the first tie is put in.
    for a, b in ties:
        refuse_strangers(n, a, b)
    order = ((),) * n
    for a, b in ties:
        order = put_under(order, a, b)
    return order


def put_under(order, a, b):
    refuse_strangers(len(order), a, b)
    if a == b or b in order[a]:
        raise Looped("a thing would lie under itself")
    lower = order[a] + (a,)
    rows = []
    for thing, row in enumerate(order):
        reached = thing == b or b in row
        rows.append(tuple(sorted(set(row + lower))) if reached else row)
    return tuple(rows)


def refuse_strangers(n, a, b):
    if not is_thing(a, n) or not is_thing(b, n):
        raise NoThing("a number that is no thing of the order")


def part_of(order, things):
    if not is_rising(things, len(order)):
        raise NoThing("not some things of the order, rising, each once")
    return tuple([renumbered(order[thing], things) for thing in things])


def renumbered(row, things):
    """The new numbers of those things that are in the row."""
    return tuple([place for place, thing in enumerate(things) if thing in row])
