"""Goings: the ways to go on through an order, each thing behind all that lie under it."""

from risecount.errors import NoGoing, NoNumber, TooGreat
from risecount.orders import ties_of

MOST_LISTED = 200


def goings_many(order):
    return ways_on(order)[()]


def goings_listed(order):
    if goings_many(order) > MOST_LISTED:
        raise TooGreat("too many goings to list")
    # Whatever begins well can be ended, so there are never more beginnings than goings.
    begun = [()]
    for step in range(len(order)):
        begun = one_step_on(order, begun)
    return tuple(begun)


def one_step_on(order, begun):
    """All beginnings with one thing more, sorted where those handed in are."""
    longer = []
    for ahead in begun:
        longer.extend([ahead + (thing,) for thing in ready_things(order, ahead)])
    return longer


def ready_things(order, ahead):
    """The things, rising, that may stand next behind those ahead."""
    others = [thing for thing in range(len(order)) if thing not in ahead]
    return [thing for thing in others if all([lower in ahead for lower in order[thing]])]


def joined(ahead, thing):
    """The things ahead and one more, rising, so that it does not matter how they came."""
    return tuple(sorted(ahead + (thing,)))


def ways_on(order):
    """By each rising tuple of things that may stand ahead, in how many ways one can go on from there."""
    ways = {}
    find_ways(order, (), ways)
    return ways


def find_ways(order, ahead, ways):
    if len(ahead) == len(order):
        ways[ahead] = 1
    if ahead not in ways:
        further = [joined(ahead, thing) for thing in ready_things(order, ahead)]
        ways[ahead] = sum([find_ways(order, longer, ways) for longer in further])
    return ways[ahead]


def going_at(order, number):
    ways = ways_on(order)
    if not 0 <= number < ways[()]:
        raise NoNumber("no going has this number")
    going = ()
    rest = number
    for step in range(len(order)):
        thing = thing_at(order, ways, going, rest)
        rest = rest - ways_ahead_of(order, ways, going, thing)
        going = going + (thing,)
    return going


def thing_at(order, ways, ahead, rest):
    """The thing that stands next in going number rest of those that begin with the things ahead."""
    ready = ready_things(order, ahead)
    return max([thing for thing in ready if ways_ahead_of(order, ways, ahead, thing) <= rest])


def ways_ahead_of(order, ways, ahead, thing):
    """How many goings begin with the things ahead and go on with a lesser thing than this one."""
    lesser = [other for other in ready_things(order, ahead) if other < thing]
    return sum([ways[joined(ahead, other)] for other in lesser])


def going_number(order, going):
    if not is_going(order, going):
        raise NoGoing("no going of the order")
    ways = ways_on(order)
    return sum([ways_ahead_of(order, ways, going[:place], thing) for place, thing in enumerate(going)])


def is_going(order, going):
    if sorted(going) != list(range(len(order))):
        return False
    return all([going.index(a) < going.index(b) for a, b in ties_of(order)])


def descents_of(going):
    return tuple([place for place in range(len(going) - 1) if going[place] > going[place + 1]])


def shares_by_descents(order):
    return tuple(shares_on(order)[((), 0)])


def shares_on(order):
    """By the things ahead, rising, and the last of them: how many ways on have 0, 1, .. further descents.

    How one can go on hangs only on these two, so all beginnings that agree in both are counted together.
    Where no thing stands yet 0 is kept as the last one: nothing is less, so no descent follows it.
    """
    shares = {}
    find_shares(order, (), 0, shares)
    return shares


def find_shares(order, ahead, last, shares):
    state = (ahead, last)
    if state not in shares:
        some = [0] * max(len(order), 1)
        if len(ahead) == len(order):
            some[0] = 1
        for thing in ready_things(order, ahead):
            further = find_shares(order, joined(ahead, thing), thing, shares)
            some = added(some, one_descent_more(further) if last > thing else further)
        shares[state] = some
    return shares[state]


def one_descent_more(shares):
    # Nothing is lost at the end: behind two things there are fewer descents than the last share tells.
    return [0] + shares[:-1]


def added(one, other):
    return [a + b for a, b in zip(one, other)]
