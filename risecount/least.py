"""The least k by which a filling rises, with a chain that shows it, and the lowest filling."""

from risecount.goings import descents_of


def least_k(order):
    if len(order) == 0:
        return (0, ())
    chain = max(strictest_chains(order), key=strict_many)
    return (strict_many(chain) + 1, chain)


def lowest(order):
    # Each strict tie of a chain asks for one more, and the strictest chain to a thing asks for most.
    return tuple([strict_many(chain) + 1 for chain in strictest_chains(order)])


def strictest_chains(order):
    """For each thing a chain that ends at it, with as many strict ties between neighbours as there can be."""
    chains = {}
    # What lies under a thing has fewer things under it, so its chain is there already.
    for thing in sorted(range(len(order)), key=lambda name: len(order[name])):
        longer = [chains[lower] + (thing,) for lower in order[thing]]
        chains[thing] = max([(thing,)] + longer, key=strict_many)
    return [chains[thing] for thing in range(len(order))]


def strict_many(chain):
    # A tie is strict where the thing below has the greater name, so in a chain strict ties are descents.
    return len(descents_of(chain))
