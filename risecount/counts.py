"""The counts of the rising fillings of an order as one polynomial, and its shares by steps."""

from risecount.goings import added, shares_by_descents
from risecount.orders import ties_of


def chosen(x, m):
    many = 1
    for step in range(m):
        # What is divided here is chosen(x, step + 1) times the divisor, so nothing is lost.
        many = many * (x - step) // (step + 1)
    return many


def count_at(order, k):
    return sum_over_descents(shares_by_descents(order), len(order), k)


def sum_over_descents(shares, n, k):
    return sum([share * chosen(k + n - 1 - d, n) for d, share in enumerate(shares)])


def polynomial(order):
    n = len(order)
    factors = [0] * (n + 1)
    for d, share in enumerate(shares_by_descents(order)):
        factors = added(factors, product_of_steps(share, n - 1 - d, n))
    return tuple(factors)


def product_of_steps(share, shift, n):
    """The share times (k + shift) * (k + shift - 1) * .., n of these, as a polynomial in k."""
    factors = [share]
    for step in range(n):
        factors = times_k_and(factors, shift - step)
    return factors


def times_k_and(factors, shift):
    """A polynomial in k times k + shift."""
    return [shift * a + b for a, b in zip(factors + [0], [0] + factors)]


def shares_by_steps(order):
    n = len(order)
    shares = shares_by_descents(order)
    return first_differences([sum_over_descents(shares, n, k) for k in range(n + 1)])


def first_differences(values):
    """The first of the values, of their differences, of the differences of these, and so on.

    Where the values are those at 0, 1, .. of a sum of s_j * chosen(k, j), these are the s_j.
    """
    firsts = []
    row = values
    while row:
        firsts.append(row[0])
        row = [b - a for a, b in zip(row, row[1:])]
    return tuple(firsts)


def pieces_many(order):
    # Each thing begins as a piece of its own, and a tie makes one piece of two.
    pieces = list(range(len(order)))
    for a, b in ties_of(order):
        pieces = merged(pieces, pieces[a], pieces[b])
    return len(set(pieces))


def merged(pieces, one, other):
    return [one if piece == other else piece for piece in pieces]
