import itertools
import random
import unittest

from risecount.downsets import downsets, is_calm
from tests.helper import (
    FAR_NUMBERS, SMALL_ORDERS, chain_order, check, downsets_by_trying, greater_orders, is_calm_by_words,
    loose_order, refused,
)

FALLING = chain_order((8, 7, 6, 5, 4, 3, 2, 1, 0))
# 1 under 0 under 2: the tie from 1 to 0 is strict, the one from 1 to 2 is plain and not bare.
MIXED = ((1,), (), (0, 1))
# 2 under 1 under 0 under 3: the tie from 2 to 0 is strict and not bare.
NOT_BARE = ((1, 2), (2,), (), (0, 1, 2))


class DownsetsTest(unittest.TestCase):
    def test_order_of_no_things(self):
        check(self, ((),), downsets, ())

    def test_orders_seen_by_eye(self):
        check(self, ((), (0,)), downsets, ((),))
        check(self, ((), (0,), (1,), (0, 1)), downsets, ((), ()))
        check(self, ((), (1,), (0, 1)), downsets, ((1,), ()))
        check(self, ((), (0,), (0, 1), (0, 2), (0, 1, 2)), downsets, ((), (0,), (0,)))
        check(self, ((), (2,), (1, 2), (0, 1, 2), (0, 1, 2, 3)), downsets, NOT_BARE)

    def test_every_order_by_trying(self):
        for order in SMALL_ORDERS + greater_orders(111):
            check(self, tuple(downsets_by_trying(order)), downsets, order)

    def test_nine_things_with_no_tie(self):
        wanted = tuple(things for size in range(10) for things in itertools.combinations(range(9), size))
        self.assertEqual(len(wanted), 512)
        check(self, wanted, downsets, loose_order(9))

    def test_nine_things_with_all_ties(self):
        for names in (tuple(range(9)), tuple(range(8, -1, -1)), (3, 8, 1, 0, 7, 2, 6, 5, 4)):
            check(self, tuple(tuple(sorted(names[:size])) for size in range(10)), downsets, chain_order(names))


class IsCalmTest(unittest.TestCase):
    def test_plain_and_strict_ties(self):
        check(self, True, is_calm, ((), (0,)), (0, 1))
        check(self, False, is_calm, ((1,), ()), (0, 1))
        check(self, False, is_calm, ((1,), ()), (1, 0))
        check(self, True, is_calm, ((1,), ()), (0, 0))
        check(self, True, is_calm, ((), ()), (1, 0))

    def test_ties_that_are_not_bare(self):
        check(self, True, is_calm, MIXED, (1, 2))
        check(self, False, is_calm, MIXED, (0, 1))
        check(self, False, is_calm, NOT_BARE, (0, 2))
        check(self, False, is_calm, NOT_BARE, (2, 3, 0))
        check(self, True, is_calm, NOT_BARE, (2, 3))
        for a, b in itertools.permutations(range(9), 2):
            check(self, False, is_calm, FALLING, (a, b))
            check(self, True, is_calm, chain_order(tuple(range(9))), (a, b))

    def test_every_choice_of_things(self):
        for order in SMALL_ORDERS:
            for size in range(len(order) + 2):
                for things in itertools.product(range(len(order)), repeat=size):
                    self.assertIs(is_calm(order, things), is_calm_by_words(order, things), (order, things))

    def test_greater_orders(self):
        chance = random.Random(112)
        for order in greater_orders(113) + (FALLING, loose_order(9)):
            for size in (1, 2, 3, 4, 9, 12, 300):
                things = tuple(chance.randrange(len(order)) for place in range(size))
                check(self, is_calm_by_words(order, things), is_calm, order, things)

    def test_no_things(self):
        for order in ((), ((),), MIXED, FALLING, loose_order(9)):
            check(self, True, is_calm, order, ())

    def test_up_to_three_hundred_of_them(self):
        check(self, True, is_calm, FALLING, (4,) * 300)
        check(self, False, is_calm, FALLING, (4,) * 299 + (3,))
        check(self, True, is_calm, loose_order(9), tuple(range(9)) * 33)

    def test_no_thing(self):
        for order in ((), ((),), MIXED, NOT_BARE, FALLING, loose_order(9)):
            for stranger in (-1, -len(order) - 1, len(order), len(order) + 1) + FAR_NUMBERS:
                refused(self, "NoThing", is_calm, order, (stranger,))
                refused(self, "NoThing", is_calm, order, (stranger,) * 300)
                for place in range(len(order) + 1):
                    things = tuple(range(len(order)))
                    refused(self, "NoThing", is_calm, order, things[:place] + (stranger,) + things[place:])

    def test_no_thing_beside_a_strict_tie(self):
        for stranger in (-1, 9) + FAR_NUMBERS:
            refused(self, "NoThing", is_calm, FALLING, (1, 0, stranger))
            refused(self, "NoThing", is_calm, FALLING, (stranger, 0, 1))
            refused(self, "NoThing", is_calm, FALLING, tuple(range(9)) * 33 + (stranger,))

    def test_same_answer_behind_a_refusal(self):
        before = (downsets(MIXED), is_calm(MIXED, (0, 1)), is_calm(MIXED, (1, 2)))
        refused(self, "NoThing", is_calm, MIXED, (0, 3))
        self.assertEqual(before, (downsets(MIXED), is_calm(MIXED, (0, 1)), is_calm(MIXED, (1, 2))))
        self.assertEqual(before, (((), (1,), (0, 1), (0, 1, 2)), False, True))


if __name__ == "__main__":
    unittest.main()
