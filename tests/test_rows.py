import itertools
import math
import random
import unittest

from risecount.rows import row_at, row_number, rows_many
from tests.helper import FAR_NUMBERS, HUGE, K_60, check, chosen_by_words, is_row_by_words, refused, told

RISING = tuple(range(9))
FALLING = tuple(range(8, -1, -1))
MIXED = (3, 8, 1, 0, 7, 2, 6, 5, 4)
SIX_NINES = 10 ** 6 - 1


def falls(going):
    return sum(one > other for one, other in zip(going, going[1:]))


def rows_by_trying(going, k):
    """All rows, as tuples are ordered, out of all tuples; for few things and small k."""
    tried = itertools.product(range(1, k + 1), repeat=len(going))
    return [row for row in tried if is_row_by_words(going, row, k)]


def some_goings(seed):
    chance = random.Random(seed)
    mixed = [tuple(chance.sample(range(n), n)) for n in range(10) for turn in range(3)]
    ends = [ends for n in range(1, 10) for ends in (tuple(range(n)), tuple(range(n - 1, -1, -1)))]
    return mixed + ends


def great_ks(seed):
    chance = random.Random(seed)
    return (K_60, 10 ** 59, chance.randrange(10 ** 59, 10 ** 60), chance.randrange(10 ** 20), SIX_NINES)


class RowsToldTest(unittest.TestCase):
    def test_all_rows_of_few_things_by_trying(self):
        for n in range(5):
            for going in itertools.permutations(range(n)):
                for k in range(6 if n < 4 else 5):
                    rows = rows_by_trying(going, k)
                    check(self, len(rows), rows_many, going, k)
                    for number, row in enumerate(rows):
                        self.assertEqual(row_at(going, k, number), row)
                        self.assertEqual(row_number(going, k, row), number)
                    refused(self, "NoNumber", row_at, going, k, len(rows))
                    refused(self, "NoNumber", row_at, going, k, -1)

    def test_some_goings_of_more_things_by_trying(self):
        chance = random.Random(61)
        for n, k in ((5, 5), (6, 4), (7, 3), (8, 3), (9, 2)):
            for turn in range(4):
                going = tuple(chance.sample(range(n), n)) if turn > 1 else tuple(range(n))
                rows = rows_by_trying(going, k)
                check(self, len(rows), rows_many, going, k)
                for number, row in enumerate(rows):
                    check(self, row, row_at, going, k, number)
                    check(self, number, row_number, going, k, row)

    def test_no_things(self):
        for k in (0, 1, 2, SIX_NINES, K_60):
            check(self, 1, rows_many, (), k)
            check(self, (), row_at, (), k, 0)
            check(self, 0, row_number, (), k, ())
            for number in (-1, 1, 2) + FAR_NUMBERS:
                refused(self, "NoNumber", row_at, (), k, number)
                refused(self, "NoRow", row_number, (), k, (number,))

    def test_k_of_0(self):
        for going in some_goings(62):
            if going:
                check(self, 0, rows_many, going, 0)
                refused(self, "NoNumber", row_at, going, 0, 0)
                for number in (0, 1, -1):
                    refused(self, "NoRow", row_number, going, 0, (number,) * len(going))

    def test_k_about_the_number_of_descents(self):
        for going in some_goings(63):
            if going:
                lowest = [1 + falls(going[:place + 1]) for place in range(len(going))]
                d = falls(going)
                check(self, 0, rows_many, going, d)
                refused(self, "NoNumber", row_at, going, d, 0)
                refused(self, "NoRow", row_number, going, d, tuple(lowest))
                check(self, 1, rows_many, going, d + 1)
                check(self, tuple(lowest), row_at, going, d + 1, 0)
                check(self, 0, row_number, going, d + 1, tuple(lowest))
                check(self, len(going) + 1, rows_many, going, d + 2)

    def test_how_many(self):
        for going in some_goings(64):
            for k in (0, 1, 2, 3, 8, 9, 10, 20) + great_ks(65):
                wanted = chosen_by_words(k + len(going) - 1 - falls(going), len(going))
                check(self, wanted, rows_many, going, k)

    def test_known_numbers(self):
        check(self, math.comb(10 ** 6 + 7, 9), rows_many, RISING, SIX_NINES)
        check(self, math.comb(SIX_NINES, 9), rows_many, FALLING, SIX_NINES)
        check(self, (1,) * 9, row_at, RISING, K_60, 0)
        check(self, (1,) * 8 + (2,), row_at, RISING, K_60, 1)
        check(self, (K_60,) * 9, row_at, RISING, K_60, math.comb(K_60 + 8, 9) - 1)
        check(self, tuple(range(1, 10)), row_at, FALLING, K_60, 0)
        check(self, tuple(range(K_60 - 8, K_60 + 1)), row_at, FALLING, K_60, math.comb(K_60, 9) - 1)
        check(self, (K_60,), row_at, (0,), K_60, K_60 - 1)
        check(self, K_60 - 1, row_number, (0,), K_60, (K_60,))
        check(self, (1, 2), row_at, (1, 0), 3, 0)
        check(self, (2, 3), row_at, (1, 0), 3, 2)

    def test_number_and_row_undo_one_another(self):
        chance = random.Random(66)
        for going in some_goings(67):
            for k in (len(going) + 3,) + great_ks(68):
                many = rows_many(going, k)
                numbers = sorted({0, many - 1, many // 2, chance.randrange(many), chance.randrange(many)})
                rows = [told(self, row_at, going, k, number) for number in numbers]
                self.assertEqual(rows, sorted(rows))
                for number, row in zip(numbers, rows):
                    self.assertTrue(is_row_by_words(going, row, k))
                    check(self, number, row_number, going, k, row)

    def test_the_next_numbers_row_stands_behind(self):
        chance = random.Random(69)
        for going in some_goings(70):
            if going:
                for k in (len(going) + 2,) + great_ks(71):
                    number = chance.randrange(rows_many(going, k) - 1)
                    row = row_at(going, k, number)
                    behind = row_at(going, k, number + 1)
                    self.assertLess(row, behind)
                    self.assertEqual(row_number(going, k, behind), number + 1)


class RefusedRowsTest(unittest.TestCase):
    def test_numbers_that_no_row_has(self):
        for going in some_goings(72):
            for k in (0, 1, falls(going), 12) + great_ks(73):
                many = rows_many(going, k)
                for number in (-1, -2, -many - 1, many, many + 1) + FAR_NUMBERS:
                    refused(self, "NoNumber", row_at, going, k, number)

    def test_every_short_tuple_that_is_no_row(self):
        for n in range(4):
            for going in itertools.permutations(range(n)):
                for k in range(4):
                    for size in range(5):
                        for tried in itertools.product(range(k + 2), repeat=size):
                            if not is_row_by_words(going, tried, k):
                                refused(self, "NoRow", row_number, going, k, tried)

    def test_one_number_made_wrong(self):
        for going in some_goings(74):
            for k in (12, K_60):
                row = row_at(going, k, rows_many(going, k) // 2)
                for place in range(len(row)):
                    for wrong in (0, -1, k + 1, k + 2) + FAR_NUMBERS:
                        refused(self, "NoRow", row_number, going, k, row[:place] + (wrong,) + row[place + 1:])
                    refused(self, "NoRow", row_number, going, k, row[:place] + row[place + 1:])
                    refused(self, "NoRow", row_number, going, k, row[:place] + row[place:place + 1] + row[place:])

    def test_a_number_that_falls(self):
        refused(self, "NoRow", row_number, RISING, 9, (1, 1, 1, 1, 1, 1, 1, 3, 2))
        refused(self, "NoRow", row_number, RISING, 9, (2, 1, 1, 1, 1, 1, 1, 3, 3))
        refused(self, "NoRow", row_number, RISING, K_60, (K_60, K_60 - 1) + (K_60,) * 7)

    def test_like_numbers_at_a_descent(self):
        row = tuple(range(1, 10))
        check(self, 0, row_number, FALLING, 9, row)
        for place in range(8):
            alike = row[:place + 1] + row[place:place + 1] + row[place + 2:]
            refused(self, "NoRow", row_number, FALLING, 9, alike)
            told(self, row_number, RISING, 9, alike)
            if MIXED[place] > MIXED[place + 1]:
                refused(self, "NoRow", row_number, MIXED, 9, alike)
            else:
                told(self, row_number, MIXED, 9, alike)

    def test_tuples_of_any_length(self):
        for going in some_goings(75):
            for size in (0, 1, 8, 9, 10, 11, 299, 300):
                if size != len(going):
                    refused(self, "NoRow", row_number, going, K_60, (1,) * size)
                    refused(self, "NoRow", row_number, going, K_60, tuple(range(1, size + 1)))
                    refused(self, "NoRow", row_number, going, K_60, (HUGE,) * size)

    def test_k_below_0_goes_ahead_of_all_else(self):
        for going in some_goings(76):
            for k in (-1, -2, -9, -K_60):
                refused(self, "NoNumber", rows_many, going, k)
                for number in (0, -1, 1) + FAR_NUMBERS:
                    refused(self, "NoNumber", row_at, going, k, number)
                    refused(self, "NoNumber", row_number, going, k, (number,) * len(going))
                refused(self, "NoNumber", row_number, going, k, (HUGE,) * 300)
                refused(self, "NoNumber", row_number, going, k, ())

    def test_same_answer_behind_a_refusal(self):
        before = (rows_many(MIXED, 9), row_at(MIXED, 9, 5), row_number(MIXED, 9, tuple(range(1, 10))))
        refused(self, "NoNumber", rows_many, MIXED, -1)
        refused(self, "NoNumber", row_at, MIXED, 9, before[0])
        refused(self, "NoRow", row_number, MIXED, 9, (1,) * 9)
        after = (rows_many(MIXED, 9), row_at(MIXED, 9, 5), row_number(MIXED, 9, tuple(range(1, 10))))
        self.assertEqual(before, after)


if __name__ == "__main__":
    unittest.main()
