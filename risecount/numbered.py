"""The rising fillings of an order by k, ordered by their goings and then by their rows, and numbered.

How many fillings there are to a beginning of a going is told without going through them: by the table
of how many ways on have how many descents, and by how many rows a going with some descents has.
"""

from risecount.counts import chosen
from risecount.errors import NoFilling, NoNumber, TooGreat
from risecount.fillings import refuse_below_0, rises
from risecount.goings import descents_of, one_step_on, ready_things, shares_on
from risecount.rows import row_at, row_number, rows_many
from risecount.there import filling_of, going_of, row_of

MOST_LISTED = 200


def rows_by_descents(n, k):
    """How many rows by k a going of n things with 0, 1, .. descents has."""
    return [chosen(k + n - 1 - d, n) for d in range(max(n, 1))]


def begun_many(table, many_rows, begun):
    """How many fillings have a going that begins so."""
    last = begun[-1] if begun else 0
    shares = table[(tuple(sorted(begun)), last)]
    passed = len(descents_of(begun))
    return sum([share * many_rows[passed + d] for d, share in enumerate(shares) if share > 0])


def many_ahead_of(order, table, many_rows, begun, thing):
    """How many fillings have a going that begins so and goes on with a lesser thing than this one."""
    lesser = [other for other in ready_things(order, begun) if other < thing]
    return sum([begun_many(table, many_rows, begun + (other,)) for other in lesser])


def filling_at(order, k, number):
    refuse_below_0(k)
    table = shares_on(order)
    many_rows = rows_by_descents(len(order), k)
    if not 0 <= number < begun_many(table, many_rows, ()):
        raise NoNumber("no filling has this number")
    going = ()
    rest = number
    for step in range(len(order)):
        thing = thing_on(order, table, many_rows, going, rest)
        rest = rest - many_ahead_of(order, table, many_rows, going, thing)
        going = going + (thing,)
    return filling_of(going, row_at(going, k, rest))


def thing_on(order, table, many_rows, begun, rest):
    """The thing that stands next in the going of filling number rest of those whose goings begin so."""
    ready = ready_things(order, begun)
    return max([thing for thing in ready if many_ahead_of(order, table, many_rows, begun, thing) <= rest])


def filling_number(order, k, filling):
    refuse_below_0(k)
    if not rises(order, filling, k):
        raise NoFilling("no filling that rises")
    table = shares_on(order)
    many_rows = rows_by_descents(len(order), k)
    going = going_of(filling)
    number = row_number(going, k, row_of(filling))
    for place, thing in enumerate(going):
        number = number + many_ahead_of(order, table, many_rows, going[:place], thing)
    return number


def fillings_listed(order, k):
    refuse_below_0(k)
    table = shares_on(order)
    many_rows = rows_by_descents(len(order), k)
    if begun_many(table, many_rows, ()) > MOST_LISTED:
        raise TooGreat("too many fillings to list")
    listed = []
    for going in filled_goings(order, table, many_rows):
        listed.extend([filling_of(going, row_at(going, k, number)) for number in range(rows_many(going, k))])
    return tuple(listed)


def filled_goings(order, table, many_rows):
    """All goings that have rows, sorted."""
    # A beginning without fillings is left at once, so there are never more beginnings than fillings.
    begun = [()]
    for step in range(len(order)):
        begun = [ahead for ahead in one_step_on(order, begun) if begun_many(table, many_rows, ahead) > 0]
    return begun
