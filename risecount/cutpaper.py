"""Cut papers: an order cut at loose pairs until none is left, row by row; and the looker at such rows."""

from risecount.counts import chosen
from risecount.cutting import are_loose, cut, loose_pairs
from risecount.errors import TooGreat
from risecount.goings import descents_of, goings_many
from risecount.orders import is_order, is_thing, ties_of

MOST_GOINGS = 100


def cut_paper(order):
    if goings_many(order) > MOST_GOINGS:
        raise TooGreat("too many goings for a cut paper")
    orders = sorted(all_cut(order), key=lambda some: (-len(ties_of(some)), some))
    numbers = {}
    for number, some in enumerate(orders):
        numbers[some] = number
    return tuple([(some, why_of(some, numbers)) for some in orders])


def all_cut(order):
    """The order and all orders into which it is cut, again and again, at first loose pairs."""
    found = {order: True}
    waiting = [order]
    while waiting:
        some = waiting.pop()
        for other in first_cut(some):
            if other not in found:
                found[other] = True
                waiting.append(other)
    return list(found)


def first_cut(order):
    pairs = loose_pairs(order)
    if not pairs:
        return ()
    return cut(order, pairs[0][0], pairs[0][1])


def why_of(order, numbers):
    pairs = loose_pairs(order)
    if not pairs:
        return ()
    return pairs[0] + tuple([numbers[other] for other in first_cut(order)])


def shows_cuts(order, rows):
    if not rows or rows[-1][0] != order:
        return False
    return all([is_order_of(row[0], len(order)) and row_holds(rows, number) for number, row in enumerate(rows)])


def is_order_of(rows, n):
    return len(rows) == n and is_order(rows)


def row_holds(rows, number):
    """Whether the row's why holds, the row's first being an order."""
    order = rows[number][0]
    why = rows[number][1]
    if not loose_pairs(order):
        return why == ()
    if len(why) != 4 or not are_loose_things(order, why[0], why[1]):
        return False
    if not (0 <= why[2] < number and 0 <= why[3] < number):
        return False
    return cut(order, why[0], why[1]) == (rows[why[2]][0], rows[why[3]][0])


def are_loose_things(order, a, b):
    return is_thing(a, len(order)) and is_thing(b, len(order)) and are_loose(order, a, b)


def counted_by(rows, k):
    counts = []
    for order, why in rows:
        counts.append(counts[why[2]] + counts[why[3]] if why else count_of_chain(order, k))
    return counts[-1]


def count_of_chain(order, k):
    # With no loose pair each thing stands in the one going behind just as many as lie under it.
    going = tuple(sorted(range(len(order)), key=lambda thing: len(order[thing])))
    return chosen(k + len(order) - 1 - len(descents_of(going)), len(order))
