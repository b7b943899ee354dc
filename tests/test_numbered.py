import itertools
import math
import random
import unittest

from risecount.counts import count_at
from risecount.numbered import filling_at, filling_number, fillings_listed
from tests.helper import (
    FAR_NUMBERS, HUGE, K_60, SMALL_ORDERS, chain_order, check, fillings_by_trying, greater_orders,
    loose_order, refused, rises_by_words, told,
)

GREAT_ORDERS = greater_orders(81) + (loose_order(9), chain_order((3, 8, 1, 0, 7, 2, 6, 5, 4)))
# Orders and k with just 200 fillings that rise, and with one more.
JUST_LISTED = (
    (((),), 200), (((), (0, 3), (), ()), 5), (((), (0,), (), (), (), (), (4,), (4,), (0,)), 2),
    (((4, 7), (4,), (0, 1, 4, 6, 7, 8), (4, 7), (), (1, 4, 6, 7, 8), (7, 8), (), ()), 4),
)
ONE_TOO_MANY = (
    (((),), 201), (((), (), (1,), (), (), (0, 1, 2, 3)), 3),
    (((3, 4, 5, 6), (3, 5, 6), (3, 5, 6), (5,), (3, 5, 6), (), (3, 5)), 6),
    (((1, 2, 3, 4, 5, 6, 7, 8), (), (1, 6, 7, 8), (1, 6), (1, 6, 7, 8), (1, 2, 3, 4, 6, 7, 8), (), (), (1, 6, 7)), 5),
)
EXAMPLE = ((), (0,), (0,))


def place_in_order(filling):
    """The going and the row, by the words of the document; as these are ordered, so are fillings."""
    pairs = sorted((number, place) for place, number in enumerate(filling))
    return tuple(place for number, place in pairs), tuple(number for number, place in pairs)


def numbered_by_trying(order, k):
    return sorted(fillings_by_trying(order, k), key=place_in_order)


class FillingsToldTest(unittest.TestCase):
    def test_an_order_seen_by_eye(self):
        wanted = ((1, 1, 1), (1, 1, 2), (1, 2, 2), (2, 2, 2), (1, 2, 1))
        check(self, wanted, fillings_listed, EXAMPLE, 2)
        for number, filling in enumerate(wanted):
            check(self, filling, filling_at, EXAMPLE, 2, number)
            check(self, number, filling_number, EXAMPLE, 2, filling)

    def test_all_fillings_of_small_orders_by_trying(self):
        for order in SMALL_ORDERS:
            for k in range(4):
                fillings = numbered_by_trying(order, k)
                check(self, tuple(fillings), fillings_listed, order, k)
                for number, filling in enumerate(fillings):
                    self.assertEqual(filling_at(order, k, number), filling)
                    self.assertEqual(filling_number(order, k, filling), number)
                refused(self, "NoNumber", filling_at, order, k, len(fillings))

    def test_greater_orders_by_trying(self):
        for order in GREAT_ORDERS:
            for k in range(3 if len(order) > 6 else 4):
                fillings = numbered_by_trying(order, k)
                if len(fillings) <= 200:
                    check(self, tuple(fillings), fillings_listed, order, k)
                else:
                    refused(self, "TooGreat", fillings_listed, order, k)
                for number in range(0, len(fillings), 37):
                    check(self, fillings[number], filling_at, order, k, number)
                    check(self, number, filling_number, order, k, fillings[number])

    def test_order_of_no_things(self):
        for k in (0, 1, 2, 200, 201, K_60):
            check(self, ((),), fillings_listed, (), k)
            check(self, (), filling_at, (), k, 0)
            check(self, 0, filling_number, (), k, ())
            for number in (-1, 1) + FAR_NUMBERS:
                refused(self, "NoNumber", filling_at, (), k, number)
                refused(self, "NoFilling", filling_number, (), k, (number,))

    def test_k_of_0(self):
        for order in SMALL_ORDERS + GREAT_ORDERS:
            if order:
                check(self, (), fillings_listed, order, 0)
                refused(self, "NoNumber", filling_at, order, 0, 0)
                for number in (0, 1):
                    refused(self, "NoFilling", filling_number, order, 0, (number,) * len(order))

    def test_many_goings_but_few_fillings(self):
        check(self, ((1,) * 9,), fillings_listed, loose_order(9), 1)
        check(self, (), fillings_listed, chain_order((8, 7, 6, 5, 4, 3, 2, 1, 0)), 8)
        check(self, ((9, 8, 7, 6, 5, 4, 3, 2, 1),), fillings_listed, chain_order((8, 7, 6, 5, 4, 3, 2, 1, 0)), 9)

    def test_known_numbers(self):
        check(self, (1,) * 9, filling_at, loose_order(9), K_60, 0)
        falling = tuple(range(K_60, K_60 - 9, -1))
        check(self, falling, filling_at, loose_order(9), K_60, K_60 ** 9 - 1)
        check(self, K_60 ** 9 - 1, filling_number, loose_order(9), K_60, falling)
        chain = chain_order(tuple(range(9)))
        check(self, (K_60,) * 9, filling_at, chain, K_60, math.comb(K_60 + 8, 9) - 1)
        check(self, (K_60,), filling_at, ((),), K_60, K_60 - 1)

    def test_number_and_filling_undo_one_another(self):
        chance = random.Random(82)
        for order in GREAT_ORDERS + (EXAMPLE, ((),)):
            for k in (10, 10 ** 20, chance.randrange(10 ** 59, 10 ** 60), K_60):
                many = count_at(order, k)
                numbers = sorted({0, many - 1, chance.randrange(many), chance.randrange(many)})
                fillings = [told(self, filling_at, order, k, number) for number in numbers]
                self.assertEqual(fillings, sorted(fillings, key=place_in_order))
                for number, filling in zip(numbers, fillings):
                    self.assertTrue(rises_by_words(order, filling, k))
                    check(self, number, filling_number, order, k, filling)

    def test_the_next_numbers_filling_stands_behind(self):
        chance = random.Random(83)
        for order in GREAT_ORDERS:
            for k in (10, K_60):
                number = chance.randrange(count_at(order, k) - 1)
                filling = filling_at(order, k, number)
                behind = filling_at(order, k, number + 1)
                self.assertLess(place_in_order(filling), place_in_order(behind))


class RefusedFillingsTest(unittest.TestCase):
    def test_just_two_hundred_are_listed(self):
        for order, k in JUST_LISTED:
            fillings = fillings_by_trying(order, k) if k ** len(order) < 10 ** 6 else None
            listed = told(self, fillings_listed, order, k)
            self.assertEqual(len(listed), 200)
            self.assertEqual(list(listed), sorted(set(listed), key=place_in_order))
            self.assertTrue(all(rises_by_words(order, filling, k) for filling in listed))
            if fillings is not None:
                self.assertEqual(sorted(listed), fillings)

    def test_more_are_not_listed(self):
        for order, k in ONE_TOO_MANY:
            check(self, 201, count_at, order, k)
            refused(self, "TooGreat", fillings_listed, order, k)
        for order in GREAT_ORDERS + (((),), EXAMPLE):
            for k in (201, 10 ** 20, K_60):
                refused(self, "TooGreat", fillings_listed, order, k)

    def test_numbers_that_no_filling_has(self):
        for order in GREAT_ORDERS + (EXAMPLE, ((),)):
            for k in (0, 1, 2, 9, K_60):
                many = count_at(order, k)
                for number in (-1, -many - 1, many, many + 1) + FAR_NUMBERS:
                    refused(self, "NoNumber", filling_at, order, k, number)

    def test_every_short_tuple_that_is_no_filling(self):
        for order in SMALL_ORDERS:
            if len(order) < 4:
                for k in range(3):
                    for size in range(len(order) + 2):
                        for tried in itertools.product(range(k + 2), repeat=size):
                            if not rises_by_words(order, tried, k):
                                refused(self, "NoFilling", filling_number, order, k, tried)

    def test_tuples_that_are_no_filling(self):
        for order in GREAT_ORDERS:
            for k in (10, K_60):
                filling = filling_at(order, k, count_at(order, k) // 2)
                refused(self, "NoFilling", filling_number, order, k, filling[:-1])
                refused(self, "NoFilling", filling_number, order, k, filling + filling[-1:])
                refused(self, "NoFilling", filling_number, order, k, (1,) * 300)
                refused(self, "NoFilling", filling_number, order, k, (HUGE,) * 300)
                refused(self, "NoFilling", filling_number, order, k, ())
                for wrong in (0, -1, k + 1) + FAR_NUMBERS:
                    for place in (0, len(order) - 1):
                        tried = filling[:place] + (wrong,) + filling[place + 1:]
                        refused(self, "NoFilling", filling_number, order, k, tried)

    def test_ties_are_kept(self):
        refused(self, "NoFilling", filling_number, ((1,), ()), K_60, (K_60, K_60))
        check(self, 0, filling_number, ((), (0,)), 1, (1, 1))
        refused(self, "NoFilling", filling_number, ((), (0,)), K_60, (K_60, K_60 - 1))

    def test_k_below_0_whatever_else_is_amiss(self):
        for order in ((), ((),), EXAMPLE, loose_order(9)):
            for k in (-1, -2, -201, -K_60):
                refused(self, "NoNumber", fillings_listed, order, k)
                for number in (0, 1, -1) + FAR_NUMBERS:
                    refused(self, "NoNumber", filling_at, order, k, number)
                    refused(self, "NoNumber", filling_number, order, k, (number,) * len(order))
                refused(self, "NoNumber", filling_number, order, k, ())
                refused(self, "NoNumber", filling_number, order, k, (HUGE,) * 300)

    def test_same_answer_behind_a_refusal(self):
        before = (fillings_listed(EXAMPLE, 2), filling_at(EXAMPLE, 2, 4), filling_number(EXAMPLE, 2, (1, 2, 1)))
        refused(self, "TooGreat", fillings_listed, EXAMPLE, 20)
        refused(self, "NoNumber", filling_at, EXAMPLE, 2, 5)
        refused(self, "NoFilling", filling_number, EXAMPLE, 2, (2, 1, 1))
        after = (fillings_listed(EXAMPLE, 2), filling_at(EXAMPLE, 2, 4), filling_number(EXAMPLE, 2, (1, 2, 1)))
        self.assertEqual(before, after)


if __name__ == "__main__":
    unittest.main()
