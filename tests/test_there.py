import itertools
import random
import unittest

from risecount.fillings import rises
from risecount.goings import descents_of, going_at, goings_many
from risecount.there import filling_of, going_of, row_of
from tests.helper import (
    FAR_NUMBERS, HUGE, SMALL_ORDERS, check, goings_by_trying, greater_orders, is_row_by_words, told,
)


class GoingAndRowTest(unittest.TestCase):
    def test_plain_cases(self):
        check(self, (), going_of, ())
        check(self, (), row_of, ())
        check(self, (0,), going_of, (5,))
        check(self, (5,), row_of, (5,))
        check(self, (1, 3, 2, 0), going_of, (9, 1, 4, 1))
        check(self, (1, 1, 4, 9), row_of, (9, 1, 4, 1))
        check(self, (1, 0), going_of, (0, -1))
        check(self, (-1, 0), row_of, (0, -1))

    def test_like_numbers(self):
        for n in range(10):
            for number in (0, 1, -7, HUGE):
                check(self, tuple(range(n)), going_of, (number,) * n)
                check(self, (number,) * n, row_of, (number,) * n)

    def test_far_numbers(self):
        high, low, highest, lowest = FAR_NUMBERS
        check(self, (4, 2, 1, 5, 0, 3), going_of, (high, 0, low, highest, lowest, 0))
        check(self, (lowest, low, 0, 0, high, highest), row_of, (high, 0, low, highest, lowest, 0))

    def test_every_filling_of_four_numbers(self):
        for filling in itertools.product((-2, 0, 3, 10), repeat=4):
            pairs = sorted((number, place) for place, number in enumerate(filling))
            check(self, tuple(place for number, place in pairs), going_of, filling)
            check(self, tuple(number for number, place in pairs), row_of, filling)

    def test_nine_numbers(self):
        check(self, (8, 7, 6, 5, 4, 3, 2, 1, 0), going_of, (9, 8, 7, 6, 5, 4, 3, 2, 1))
        check(self, (1, 3, 5, 7, 0, 2, 4, 6, 8), going_of, (2, 1, 2, 1, 2, 1, 2, 1, 2))


class FillingOfTest(unittest.TestCase):
    def test_plain_cases(self):
        check(self, (), filling_of, (), ())
        check(self, (7,), filling_of, (0,), (7,))
        check(self, (30, 10, 20), filling_of, (1, 2, 0), (10, 20, 30))
        check(self, (-5, HUGE), filling_of, (1, 0), (HUGE, -5))

    def test_rows_that_do_not_rise(self):
        for going in itertools.permutations(range(4)):
            for row in itertools.permutations((4, -1, 0, 9)):
                filling = told(self, filling_of, going, row)
                self.assertEqual(tuple(filling[thing] for thing in going), row)
                self.assertEqual(len(filling), 4)

    def test_nine_things(self):
        chance = random.Random(51)
        for turn in range(50):
            going = tuple(chance.sample(range(9), 9))
            row = tuple(chance.choice((-1, 1)) * chance.randrange(10 ** 600) for thing in going)
            filling = told(self, filling_of, going, row)
            self.assertEqual(tuple(filling[thing] for thing in going), row)


class ThereAndBackTest(unittest.TestCase):
    def test_the_filling_of_its_going_and_row_is_the_filling(self):
        chance = random.Random(52)
        for n in range(10):
            for most in (2, 5, 10 ** 600):
                filling = tuple(chance.choice((-1, 1)) * chance.randrange(most) for place in range(n))
                check(self, filling, filling_of, told(self, going_of, filling), told(self, row_of, filling))

    def test_a_filling_that_rises_has_a_going_of_the_order_and_a_row_of_it(self):
        for order in SMALL_ORDERS:
            goings = goings_by_trying(order)
            for filling in itertools.product(range(1, 4), repeat=len(order)):
                if rises(order, filling, 3):
                    going = going_of(filling)
                    self.assertIn(going, goings)
                    self.assertTrue(is_row_by_words(going, row_of(filling), 3))
                    self.assertEqual(filling_of(going, row_of(filling)), filling)

    def test_each_going_and_row_of_it_make_a_filling_that_rises(self):
        for order in SMALL_ORDERS:
            for going in goings_by_trying(order):
                for row in itertools.product(range(1, 4), repeat=len(order)):
                    if is_row_by_words(going, row, 3):
                        self.go_back(order, going, row, 3)

    def test_greater_orders(self):
        chance = random.Random(53)
        for order in greater_orders(54):
            for turn in range(20):
                going = going_at(order, chance.randrange(goings_many(order)))
                row = [chance.randrange(1, 3)]
                for place in range(1, len(going)):
                    row.append(row[-1] + chance.randrange(2) + (place - 1 in descents_of(going)))
                self.go_back(order, going, tuple(row), row[-1])

    def go_back(self, order, going, row, k):
        filling = filling_of(going, row)
        self.assertIs(rises(order, filling, k), True)
        self.assertEqual(going_of(filling), going)
        self.assertEqual(row_of(filling), row)


if __name__ == "__main__":
    unittest.main()
