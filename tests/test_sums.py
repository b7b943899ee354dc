import itertools
import random
import unittest

from risecount.counts import count_at, shares_by_steps
from risecount.goings import shares_by_descents
from risecount.sums import above_plain, above_strict, side_by_side
from risecount.turned import names_turned, upside_down
from tests.helper import (
    FAR_KS, SMALL_ORDERS, all_orders, chain_order, check, fillings_by_trying, greater_orders, loose_order,
    order_by_chance, pairs_from, refused, rows_from,
)

TINY_ORDERS = tuple(order for order in SMALL_ORDERS if len(order) < 4)
SUMS = (side_by_side, above_plain, above_strict)


def shifted_pairs(order, more):
    return {(a + more, b + more) for a, b in pairs_from(order)}


def sum_by_words(call, one, other):
    p, q = len(one), len(other)
    first, second = (q, 0) if call is above_strict else (0, p)
    pairs = shifted_pairs(one, first) | shifted_pairs(other, second)
    if call is not side_by_side:
        pairs |= {(a + first, b + second) for a in range(p) for b in range(q)}
    return rows_from(p + q, pairs)


def some_pairs(seed):
    """Pairs of orders, of p and q things for all p + q up to 9, named in any way."""
    chance = random.Random(seed)
    pairs = []
    for p, q in itertools.product(range(10), repeat=2):
        if p + q < 10:
            pairs.append((order_by_chance(p, chance.random(), chance), order_by_chance(q, chance.random(), chance)))
    return pairs


def folded(one, other, more, length):
    """Number m: the sum of the products of all a and b of the two whose places and the more add up to m."""
    return tuple(
        sum(a * b for i, a in enumerate(one) for j, b in enumerate(other) if i + j + more == m) for m in range(length)
    )


class SumsTest(unittest.TestCase):
    def test_orders_seen_by_eye(self):
        one, other = ((), (0,)), ((1, 2), (), ())
        check(self, ((), (0,), (3, 4), (), ()), side_by_side, one, other)
        check(self, ((), (0,), (0, 1, 3, 4), (0, 1), (0, 1)), above_plain, one, other)
        check(self, ((1, 2, 3, 4), (3, 4), (3, 4), (), (3,)), above_strict, one, other)
        check(self, ((1, 2), (), (), (), (3,)), side_by_side, other, one)
        check(self, ((1, 2), (), (), (0, 1, 2), (0, 1, 2, 3)), above_plain, other, one)
        check(self, ((2, 3, 4), (0, 2, 3, 4), (3, 4), (), ()), above_strict, other, one)

    def test_tiny_orders_by_words(self):
        for one, other in itertools.product(TINY_ORDERS, repeat=2):
            for call in SUMS:
                check(self, sum_by_words(call, one, other), call, one, other)

    def test_greater_orders_by_words(self):
        for one, other in some_pairs(151) + some_pairs(152):
            for call in SUMS:
                check(self, sum_by_words(call, one, other), call, one, other)

    def test_one_or_both_of_no_things(self):
        for order in SMALL_ORDERS + greater_orders(153):
            for call in SUMS:
                check(self, order, call, order, ())
                check(self, order, call, (), order)
        for call in SUMS:
            check(self, (), call, (), ())

    def test_nine_things_and_ten(self):
        for p in range(10):
            for call in SUMS:
                for make in (loose_order, lambda n: chain_order(tuple(range(n)))):
                    check(self, sum_by_words(call, make(p), make(9 - p)), call, make(p), make(9 - p))
                    if p > 0:
                        refused(self, "TooGreat", call, make(p), make(10 - p))

    def test_more_than_nine_things(self):
        chance = random.Random(154)
        for p, q in itertools.product(range(1, 10), repeat=2):
            if p + q > 9:
                one, other = order_by_chance(p, 0.4, chance), order_by_chance(q, 0.4, chance)
                for call in SUMS:
                    refused(self, "TooGreat", call, one, other)

    def test_same_answer_behind_a_refusal(self):
        one, other = ((), (0,)), ((1, 2), (), ())
        before = [call(one, other) for call in SUMS]
        for call in SUMS:
            refused(self, "TooGreat", call, loose_order(9), one)
        self.assertEqual(before, [call(one, other) for call in SUMS])


class KnownTest(unittest.TestCase):
    def test_side_by_side_the_fillings_are_put_together(self):
        for one, other in itertools.product(TINY_ORDERS[::3], repeat=2):
            if len(one) + len(other) < 6:
                wanted = sorted(a + b for a in fillings_by_trying(one, 3) for b in fillings_by_trying(other, 3))
                self.assertEqual(fillings_by_trying(side_by_side(one, other), 3), wanted)

    def test_side_by_side_the_counts_are_products(self):
        for one, other in some_pairs(155):
            both = side_by_side(one, other)
            for k in (-5, -1, 0, 1, 2, 3) + FAR_KS[:2]:
                self.assertEqual(count_at(both, k), count_at(one, k) * count_at(other, k), (one, other, k))

    def test_shares_by_descents_above(self):
        for one, other in some_pairs(156) + list(itertools.product(TINY_ORDERS[::2], repeat=2)):
            if one and other:
                w, v = shares_by_descents(one), shares_by_descents(other)
                n = len(one) + len(other)
                self.assertEqual(shares_by_descents(above_plain(one, other)), folded(w, v, 0, n))
                self.assertEqual(shares_by_descents(above_strict(one, other)), folded(w, v, 1, n))

    def test_shares_by_steps_above(self):
        for one, other in some_pairs(157) + list(itertools.product(TINY_ORDERS[::2], repeat=2)):
            if one and other:
                s, t = shares_by_steps(one), shares_by_steps(other)
                n = len(one) + len(other)
                strict, one_less = folded(s, t, 0, n + 1), folded(s, t, -1, n + 1)
                self.assertEqual(shares_by_steps(above_strict(one, other)), strict)
                self.assertEqual(shares_by_steps(above_plain(one, other)), tuple(map(sum, zip(strict, one_less))))

    def test_three_orders_either_two_of_them_first(self):
        chance = random.Random(158)
        threes = list(itertools.product([order for n in range(3) for order in all_orders(n)], repeat=3))
        for sizes in ((3, 3, 3), (0, 4, 5), (7, 1, 1), (2, 0, 7), (2, 5, 2), (4, 5, 0), (1, 2, 3)):
            threes.append([order_by_chance(n, 0.5, chance) for n in sizes])
        for one, two, three in threes:
            for call in SUMS:
                self.assertEqual(call(call(one, two), three), call(one, call(two, three)))

    def test_with_names_turned(self):
        for one, other in some_pairs(159) + list(itertools.product(TINY_ORDERS, repeat=2)):
            turned = names_turned(one), names_turned(other)
            self.assertEqual(names_turned(above_plain(one, other)), above_strict(*turned))
            self.assertEqual(names_turned(above_strict(one, other)), above_plain(*turned))
            self.assertEqual(names_turned(side_by_side(one, other)), side_by_side(*turned[::-1]))

    def test_upside_down(self):
        for one, other in some_pairs(160) + list(itertools.product(TINY_ORDERS, repeat=2)):
            flipped = upside_down(one), upside_down(other)
            self.assertEqual(upside_down(side_by_side(one, other)), side_by_side(*flipped))
            # The second one stands below then and keeps its numbers, so what was plain is strict.
            self.assertEqual(upside_down(above_plain(one, other)), above_strict(*flipped[::-1]))
            self.assertEqual(upside_down(above_strict(one, other)), above_plain(*flipped[::-1]))


if __name__ == "__main__":
    unittest.main()
