import itertools
import math
import random
import unittest

from risecount.goings import (
    descents_of, going_at, going_number, goings_listed, goings_many, shares_by_descents,
)
from tests.helper import (
    FAR_NUMBERS, SMALL_ORDERS, chain_order, check, goings_by_trying, greater_orders, loose_order,
    pairs_from, refused, told,
)

TRIED_ORDERS = SMALL_ORDERS + greater_orders(41, sizes=(5, 6))
GREAT_ORDERS = greater_orders(42, sizes=(7, 8, 9)) + (loose_order(9), chain_order((3, 8, 1, 0, 7, 2, 6, 5, 4)))
# Orders of eight things with just 200 goings, and with one more.
JUST_LISTED = ((1, 3, 4, 6), (4, 6), (5, 6), (1, 4, 6), (), (6,), (), ())
ONE_TOO_MANY = ((3, 4, 7), (0, 3, 4, 7), (3, 6, 7), (7,), (), (4, 6), (), ())
EXAMPLE = ((), (0,), (0,), (0, 1))


def is_going_by_words(order, going):
    if sorted(going) != list(range(len(order))):
        return False
    return all(going.index(a) < going.index(b) for a, b in pairs_from(order))


class GoingsToldTest(unittest.TestCase):
    def test_order_of_no_things(self):
        check(self, 1, goings_many, ())
        check(self, ((),), goings_listed, ())
        check(self, (), going_at, (), 0)
        check(self, 0, going_number, (), ())

    def test_all_goings_by_trying(self):
        for order in TRIED_ORDERS:
            goings = goings_by_trying(order)
            check(self, len(goings), goings_many, order)
            if len(goings) <= 200:
                check(self, tuple(goings), goings_listed, order)
            else:
                refused(self, "TooGreat", goings_listed, order)
            for number, going in enumerate(goings):
                self.assertEqual(going_at(order, number), going)
                self.assertEqual(going_number(order, going), number)

    def test_nine_things_with_no_tie(self):
        order = loose_order(9)
        check(self, math.factorial(9), goings_many, order)
        refused(self, "TooGreat", goings_listed, order)
        check(self, tuple(range(9)), going_at, order, 0)
        check(self, (8, 7, 6, 5, 4, 3, 2, 1, 0), going_at, order, 362879)
        check(self, 362879, going_number, order, (8, 7, 6, 5, 4, 3, 2, 1, 0))
        check(self, (1,) + (0,) + tuple(range(2, 9)), going_at, order, 40320)

    def test_nine_things_with_all_ties(self):
        for names in (tuple(range(9)), (8, 7, 6, 5, 4, 3, 2, 1, 0), (3, 8, 1, 0, 7, 2, 6, 5, 4)):
            order = chain_order(names)
            check(self, 1, goings_many, order)
            check(self, (names,), goings_listed, order)
            check(self, names, going_at, order, 0)
            check(self, 0, going_number, order, names)
            refused(self, "NoNumber", going_at, order, 1)

    def test_number_and_going_undo_one_another(self):
        chance = random.Random(43)
        for order in GREAT_ORDERS:
            many = told(self, goings_many, order)
            numbers = [0, many - 1, many // 2] + [chance.randrange(many) for turn in range(20)]
            goings = [told(self, going_at, order, number) for number in numbers]
            for number, going in zip(numbers, goings):
                self.assertTrue(is_going_by_words(order, going))
                check(self, number, going_number, order, going)
            by_number = [going for number, going in sorted(zip(numbers, goings))]
            self.assertEqual(by_number, sorted(goings))


class RefusedGoingsTest(unittest.TestCase):
    def test_just_two_hundred_are_listed(self):
        goings = goings_by_trying(JUST_LISTED)
        self.assertEqual(len(goings), 200)
        check(self, 200, goings_many, JUST_LISTED)
        check(self, tuple(goings), goings_listed, JUST_LISTED)
        self.assertEqual([going_number(JUST_LISTED, going) for going in goings], list(range(200)))

    def test_more_are_not_listed(self):
        check(self, 201, goings_many, ONE_TOO_MANY)
        for order in (ONE_TOO_MANY, loose_order(6), loose_order(9)):
            refused(self, "TooGreat", goings_listed, order)

    def test_numbers_that_no_going_has(self):
        for order in ((), ((),), EXAMPLE, loose_order(9)) + GREAT_ORDERS:
            many = goings_many(order)
            for number in (-1, -many, many, many + 1) + FAR_NUMBERS:
                refused(self, "NoNumber", going_at, order, number)

    def test_every_short_tuple_that_is_no_going(self):
        for order in SMALL_ORDERS:
            n = len(order)
            if n < 4:
                for size in range(n + 2):
                    for tried in itertools.product(range(-1, n + 1), repeat=size):
                        if not is_going_by_words(order, tried):
                            refused(self, "NoGoing", going_number, order, tried)

    def test_tuples_that_are_no_going(self):
        for order in GREAT_ORDERS:
            n = len(order)
            going = going_at(order, 0)
            refused(self, "NoGoing", going_number, order, going[:-1])
            refused(self, "NoGoing", going_number, order, going[1:])
            refused(self, "NoGoing", going_number, order, going[:-1] + going[:1])
            refused(self, "NoGoing", going_number, order, going + going[:1])
            refused(self, "NoGoing", going_number, order, going + (n,))
            refused(self, "NoGoing", going_number, order, going * (300 // n))
            refused(self, "NoGoing", going_number, order, ())
            for stranger in FAR_NUMBERS + (-1, n):
                refused(self, "NoGoing", going_number, order, going[:-1] + (stranger,))
                refused(self, "NoGoing", going_number, order, (stranger,) * 300)

    def test_two_things_against_a_tie(self):
        for order in GREAT_ORDERS:
            for a, b in pairs_from(order):
                swapped = {a: b, b: a}
                tried = tuple(swapped.get(thing, thing) for thing in going_at(order, 0))
                refused(self, "NoGoing", going_number, order, tried)

    def test_no_things_against_some(self):
        for stranger in FAR_NUMBERS + (0, -1):
            refused(self, "NoGoing", going_number, (), (stranger,))

    def test_same_answer_behind_a_refusal(self):
        before = (goings_listed(EXAMPLE), going_at(EXAMPLE, 2), going_number(EXAMPLE, (0, 2, 1, 3)))
        refused(self, "NoNumber", going_at, EXAMPLE, 3)
        refused(self, "NoGoing", going_number, EXAMPLE, (1, 0, 2, 3))
        refused(self, "TooGreat", goings_listed, loose_order(7))
        self.assertEqual(before, (goings_listed(EXAMPLE), going_at(EXAMPLE, 2), going_number(EXAMPLE, (0, 2, 1, 3))))
        self.assertEqual(before, (((0, 1, 2, 3), (0, 1, 3, 2), (0, 2, 1, 3)), (0, 2, 1, 3), 2))


class DescentsTest(unittest.TestCase):
    def test_places(self):
        check(self, (), descents_of, ())
        check(self, (), descents_of, (0,))
        check(self, (), descents_of, (0, 1))
        check(self, (0,), descents_of, (1, 0))
        check(self, (0, 2), descents_of, (1, 0, 3, 2))
        check(self, (), descents_of, tuple(range(9)))
        check(self, tuple(range(8)), descents_of, tuple(range(8, -1, -1)))

    def test_unlike_whole_numbers(self):
        check(self, (1,), descents_of, (-5, 7, -9))
        check(self, (0, 1), descents_of, (-1, -2, -3))
        check(self, (1, 2), descents_of, FAR_NUMBERS[:1] + FAR_NUMBERS[2:3] + (0, FAR_NUMBERS[1]))

    def test_every_row_of_five(self):
        for going in itertools.permutations((-3, 0, 2, 10, 11)):
            wanted = tuple(i for i in range(4) if going[i + 1] < going[i])
            check(self, wanted, descents_of, going)


class SharesTest(unittest.TestCase):
    def test_order_of_no_things(self):
        check(self, (1,), shares_by_descents, ())

    def test_known_shares(self):
        check(self, (1,), shares_by_descents, ((),))
        check(self, (1, 1), shares_by_descents, ((), ()))
        check(self, (1, 0), shares_by_descents, ((), (0,)))
        check(self, (0, 1), shares_by_descents, ((1,), ()))
        eulerian = (1, 502, 14608, 88234, 156190, 88234, 14608, 502, 1)
        check(self, eulerian, shares_by_descents, loose_order(9))
        check(self, (1,) + (0,) * 8, shares_by_descents, chain_order(tuple(range(9))))
        check(self, (0,) * 8 + (1,), shares_by_descents, chain_order((8, 7, 6, 5, 4, 3, 2, 1, 0)))

    def test_by_going_through_the_goings(self):
        for order in TRIED_ORDERS:
            wanted = [0] * max(len(order), 1)
            for going in goings_by_trying(order):
                wanted[sum(one > other for one, other in zip(going, going[1:]))] += 1
            check(self, tuple(wanted), shares_by_descents, order)

    def test_together_as_many_as_there_are_goings(self):
        for order in GREAT_ORDERS:
            shares = told(self, shares_by_descents, order)
            self.assertEqual(len(shares), len(order))
            self.assertEqual(sum(shares), goings_many(order))


if __name__ == "__main__":
    unittest.main()
