import itertools
import math
import random
import unittest

from risecount.forests import forest_goings, is_forest, sizes_of
from risecount.goings import goings_many
from tests.helper import (
    SMALL_ORDERS, chain_order, check, closure, goings_by_trying, greater_orders, loose_order, pairs_from, refused,
    rows_from, told, upside_down_by_words,
)

CHAINS = (chain_order(tuple(range(9))), chain_order(tuple(range(8, -1, -1))), chain_order((3, 8, 1, 0, 7, 2, 6, 5, 4)))


def is_forest_by_words(order):
    pairs = pairs_from(order)
    for thing in range(len(order)):
        above = [b for a, b in pairs if a == thing]
        if any((a, b) not in pairs and (b, a) not in pairs for a, b in itertools.combinations(above, 2)):
            return False
    return True


def forest_by_chance(n, loose, chance):
    """Each thing lies straight under one that stands behind it in a mixed row, or under none."""
    names = chance.sample(range(n), n)
    pairs = set()
    for place in range(n - 1):
        if chance.random() >= loose:
            pairs.add((names[place], chance.choice(names[place + 1:])))
    return rows_from(n, closure(n, pairs))


def forests_by_chance(seed):
    chance = random.Random(seed)
    shares = (0, 0.1, 0.3, 0.6) * 3
    return tuple(forest_by_chance(n, loose, chance) for n in range(10) for loose in shares)


FORESTS = forests_by_chance(171)


class IsForestTest(unittest.TestCase):
    def test_orders_seen_by_eye(self):
        for order in ((), ((),), ((), ()), ((), (0,)), ((1,), ()), ((), (), (0, 1)), ((1, 2), (), ())):
            check(self, True, is_forest, order)
        check(self, False, is_forest, ((), (0,), (0,)))
        check(self, False, is_forest, ((2,), (2,), ()))
        # Two above one another, and one loose thing beside both of them.
        check(self, True, is_forest, ((), (0,), (0, 1), ()))
        # The two that are loose have a third one above both, and what lies under them makes it no forest.
        check(self, False, is_forest, ((), (0,), (0,), (0, 1, 2)))
        check(self, True, is_forest, ((), (), (0, 1), (0, 1, 2)))

    def test_every_order_by_words(self):
        seen = {True: 0, False: 0}
        for order in SMALL_ORDERS + greater_orders(172) + FORESTS:
            check(self, is_forest_by_words(order), is_forest, order)
            seen[is_forest_by_words(order)] += 1
        self.assertGreater(min(seen.values()), 50)

    def test_forests_and_forests_upside_down(self):
        others = 0
        for order in FORESTS:
            check(self, True, is_forest, order)
            flipped = upside_down_by_words(order)
            check(self, is_forest_by_words(flipped), is_forest, flipped)
            others += not is_forest_by_words(flipped)
        self.assertGreater(others, 20)

    def test_nine_things(self):
        for order in CHAINS + (loose_order(9),):
            check(self, True, is_forest, order)
        for middle in range(9):
            others = [thing for thing in range(9) if thing != middle]
            check(self, True, is_forest, rows_from(9, {(thing, middle) for thing in others}))
            check(self, False, is_forest, rows_from(9, {(middle, thing) for thing in others}))
            check(self, False, is_forest, rows_from(9, {(middle, thing) for thing in others[3:5]}))


class SizesTest(unittest.TestCase):
    def test_orders_seen_by_eye(self):
        check(self, (), sizes_of, ())
        check(self, (1,), sizes_of, ((),))
        check(self, (2, 1), sizes_of, ((1,), ()))
        check(self, (1, 2, 2), sizes_of, ((), (0,), (0,)))
        check(self, (1, 1, 3), sizes_of, ((), (), (0, 1)))

    def test_any_order_a_forest_or_none(self):
        for order in SMALL_ORDERS + greater_orders(173) + FORESTS:
            pairs = pairs_from(order)
            wanted = tuple(1 + sum(b == thing for a, b in pairs) for thing in range(len(order)))
            check(self, wanted, sizes_of, order)

    def test_nine_things(self):
        check(self, (1,) * 9, sizes_of, loose_order(9))
        check(self, (4, 3, 6, 1, 9, 8, 7, 5, 2), sizes_of, CHAINS[2])


class ForestGoingsTest(unittest.TestCase):
    def test_order_of_no_things(self):
        check(self, 1, forest_goings, ())

    def test_orders_seen_by_eye(self):
        check(self, 1, forest_goings, ((),))
        check(self, 2, forest_goings, ((), ()))
        check(self, 2, forest_goings, ((), (), (0, 1)))
        check(self, 3, forest_goings, ((1,), (), ()))

    def test_small_orders_by_trying(self):
        for order in SMALL_ORDERS:
            if is_forest_by_words(order):
                check(self, len(goings_by_trying(order)), forest_goings, order)
            else:
                refused(self, "NotForest", forest_goings, order)

    def test_greater_forests(self):
        for order in FORESTS:
            answer = told(self, forest_goings, order)
            self.assertEqual(answer, goings_many(order))
            self.assertEqual(answer * math.prod(sizes_of(order)), math.factorial(len(order)))

    def test_greater_orders_that_are_none(self):
        others = [order for order in greater_orders(174, shares=(0.2, 0.3, 0.4, 0.5)) if not is_forest_by_words(order)]
        self.assertGreater(len(others), 10)
        for order in others:
            refused(self, "NotForest", forest_goings, order)

    def test_nine_things(self):
        check(self, math.factorial(9), forest_goings, loose_order(9))
        for order in CHAINS:
            check(self, 1, forest_goings, order)
        check(self, math.factorial(8), forest_goings, rows_from(9, {(thing, 4) for thing in range(9) if thing != 4}))
        refused(self, "NotForest", forest_goings, rows_from(9, {(4, thing) for thing in range(9) if thing != 4}))

    def test_same_answer_behind_a_refusal(self):
        order = ((1, 2), (), ())
        before = (is_forest(order), sizes_of(order), forest_goings(order))
        refused(self, "NotForest", forest_goings, ((), (0,), (0,)))
        self.assertEqual(before, (is_forest(order), sizes_of(order), forest_goings(order)))
        self.assertEqual(before, (True, (3, 1, 1), 2))


if __name__ == "__main__":
    unittest.main()
