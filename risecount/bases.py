"""Shares by descents and shares by steps that belong to one polynomial, the one told for the other."""

from risecount.counts import chosen, first_differences, sum_over_descents


def value_of_descents(shares, k):
    return sum_over_descents(shares, len(shares), k)


def value_of_steps(shares, k):
    return sum([share * chosen(k, j) for j, share in enumerate(shares)])


def steps_of(shares):
    return first_differences([value_of_descents(shares, k) for k in range(len(shares) + 1)])


def descents_from(shares):
    n = len(shares) - 1
    found = []
    for d in range(n):
        # At d + 1 the shares of more than d descents add nothing, and that of d descents itself just once.
        found.append(value_of_steps(shares, d + 1) - sum_over_descents(found, n, d + 1))
    return tuple(found)
