"""Two orders compared: laid on one another where they are alike, else told apart by their counts."""

from risecount.counts import shares_by_steps
from risecount.orders import is_bare, ties_of


def laying(one, other):
    kinds = ties_by_kind(one)
    other_kinds = ties_by_kind(other)
    looks = looks_of(one, kinds)
    other_looks = looks_of(other, other_kinds)
    # Most orders that are not alike are told apart here, before any laying is tried.
    if sorted(looks) != sorted(other_looks):
        return None
    choices = [places_of(look, other_looks) for look in looks]
    return first_laid(kinds, other_kinds, choices, ())


def ties_by_kind(order):
    """All ties, each with its kind; a laying keeps kinds, since what lies between is laid between."""
    kinds = {}
    for tie in ties_of(order):
        kinds[tie] = kind_of(order, tie)
    return kinds


def kind_of(order, tie):
    if not is_bare(order, tie):
        return "not bare"
    return "strict" if tie[0] > tie[1] else "plain"


def looks_of(order, kinds):
    """For each thing the ties it stands in: a thing and the one laid for it look alike."""
    return [look_of(kinds, thing) for thing in range(len(order))]


def look_of(kinds, thing):
    above = sorted([kind for tie, kind in kinds.items() if tie[0] == thing])
    below = sorted([kind for tie, kind in kinds.items() if tie[1] == thing])
    return (above, below)


def places_of(look, looks):
    return [place for place, other in enumerate(looks) if other == look]


def first_laid(kinds, other_kinds, choices, begun):
    """The first laying that begins so, None where there is none."""
    if len(begun) == len(choices):
        return begun
    for thing in choices[len(begun)]:
        if thing not in begun and goes_on(kinds, other_kinds, begun, thing):
            found = first_laid(kinds, other_kinds, choices, begun + (thing,))
            if found is not None:
                return found
    return None


def goes_on(kinds, other_kinds, begun, thing):
    """Whether the thing laid next is tied to those laid already as the things are for which they are laid."""
    last = len(begun)
    for place, laid in enumerate(begun):
        if kinds.get((place, last)) != other_kinds.get((laid, thing)):
            return False
        if kinds.get((last, place)) != other_kinds.get((thing, laid)):
            return False
    return True


def told_apart(one, other):
    found = laying(one, other)
    if found is not None:
        return ("alike", found)
    # The count at k is made of the shares of 0 to k steps, that of k steps taken once: so the counts
    # differ first where the shares do.
    k = first_unlike(shares_by_steps(one), shares_by_steps(other))
    if k is None:
        return ("same",)
    return ("apart", k)


def first_unlike(shares, others):
    """The first place at which the shares differ, those that are not there being 0; None where they agree."""
    longer = max(len(shares), len(others))
    for place in range(longer):
        if share_at(shares, place) != share_at(others, place):
            return place
    return None


def share_at(shares, place):
    return shares[place] if place < len(shares) else 0
