"""Goings: the ways to go on through an order, each thing behind all that lie under it."""

from risecount.errors import NoGoing, NoNumber, TooGreat
from risecount.orders import ties_of

MOST_LISTED = 200


def goings_many(order):
    return ways_on(order)[()]


def goings_listed(order):
    if goings_many(order) > MOST_LISTED:
        raise TooGreat("too many goings to list")
    # Whatever begins well can be ended, so there are never more beginnings than goings.
    begun = [()]
    for step in range(len(order)):
        begun = one_step_on(order, begun)
    return tuple(begun)


def one_step_on(order, begun):
    """All beginnings with one thing more, sorted where those handed in are."""
    longer = []
    for ahead in begun:
        longer.extend([ahead + (thing,) for thing in ready_things(order, ahead)])
    return longer


def ready_things(order, ahead):
    """The things, rising, that may stand next behind those ahead."""
    others = [thing for thing in range(len(order)) if thing not in ahead]
    return [thing for thing in others if all([lower in ahead for lower in order[thing]])]


def joined(ahead, thing):
    """The things ahead and one more, rising, so that it does not matter how they came."""
    return tuple(sorted(ahead + (thing,)))


def ways_on(order):
    """By each rising tuple of things that may stand ahead, in how many ways one can go on from there."""
    ways = {}
    find_ways(order, (), ways)
    return ways


def find_ways(order, ahead, ways):
    if len(ahead) == len(order):
        ways[ahead] = 1
    if ahead not in ways:
        further = [joined(ahead, thing) for thing in ready_things(order, ahead)]
        ways[ahead] = sum([find_ways(order, longer, ways) for longer in further])
    return ways[ahead]


def going_at(order, number):
    ways = ways_on(order)
    if not 0 <= number < ways[()]:
        raise NoNumber("no going has this number")
    going = ()
    rest = number
    for step in range(len(order)):
        thing = thing_at(order, ways, going, rest)
        rest = rest - ways_ahead_of(order, ways, going, thing)
        going = going + (thing,)
    return going


def thing_at(order, ways, ahead, rest):
    """The thing that stands next in going number rest of those that begin with the things ahead."""
    ready = ready_things(order, ahead)
    return max([thing for thing in ready if ways_ahead_of(order, ways, ahead, thing) <= rest])


def ways_ahead_of(order, ways, ahead, thing):
    """How many goings begin with the things ahead and go on with a lesser thing than this one."""
    lesser = [other for other in ready_things(order, ahead) if other < thing]
    return sum([ways[joined(ahead, other)] for other in lesser])


def going_number(order, going):
    if not is_going(order, going):
        raise NoGoing("no going of the order")
    ways = ways_on(order)
    return sum([ways_ahead_of(order, ways, going[:place], thing) for place, thing in enumerate(going)])


def is_going(order, going):
    if sorted(going) != list(range(len(order))):
        return False
    return all([going.index(a) < going.index(b) for a, b in ties_of(order)])


def descents_of(going):
    return tuple([place for place in range(len(going) - 1) if going[place] > going[place + 1]])


def shares_by_descents(order):
    many = max(len(order), 1)
    # Where no thing stands yet 0 is kept as the last one: nothing is less, so no descent follows it.
    begun = {((), 0): [1] + [0] * (many - 1)}
    for step in range(len(order)):
        begun = shares_one_step_on(order, begun)
    shares = [0] * many
    for some in begun.values():
        shares = added(shares, some)
    return tuple(shares)


def shares_one_step_on(order, begun):
    """How many beginnings there are by their descents, for one thing more.

    How a beginning goes on hangs only on which things stand in it and which one stands last,
    so all that agree in both are kept together.
    """
    longer = {}
    for state, shares in begun.items():
        ahead = state[0]
        last = state[1]
        for thing in ready_things(order, ahead):
            reached = (joined(ahead, thing), thing)
            some = one_descent_more(shares) if last > thing else shares
            longer[reached] = added(longer[reached], some) if reached in longer else some
    return longer


def one_descent_more(shares):
    # Nothing is lost at the end: what can still go on has fewer descents than the last share tells.
    return [0] + shares[:-1]


def added(one, other):
    return [a + b for a, b in zip(one, other)]
