import itertools
import random
import unittest

from risecount.orders import bare_ties, is_order, order_of, part_of, put_under, ties_of
from tests.helper import (
    FAR_NUMBERS, SMALL_ORDERS, chain_order, check, closure, greater_orders, loose_order,
    pairs_from, refused, rows_from, told,
)

EXAMPLE = ((), (0,), (0, 1))
ORDERS = SMALL_ORDERS + greater_orders(4)
STRANGERS = FAR_NUMBERS + (-1, -2, -9, 300)


class IsOrderTest(unittest.TestCase):
    def yes(self, rows):
        check(self, True, is_order, rows)

    def no(self, rows):
        check(self, False, is_order, rows)

    def test_document_examples(self):
        self.yes(())
        self.yes(EXAMPLE)
        self.yes(((1,), (), (0, 1)))
        self.yes(((2,), (0, 2), ()))

    def test_every_choice_of_rows_of_up_to_three_things(self):
        for n in range(4):
            rows = [row for size in range(n + 1) for row in itertools.product(range(n), repeat=size)]
            if n == 3:
                rows = [row for row in rows if len(row) < 3] + [(0, 1, 2), (2, 1, 0), (0, 0, 1)]
            wanted = [order for order in SMALL_ORDERS if len(order) == n]
            found = [tried for tried in itertools.product(rows, repeat=n) if is_order(tried)]
            self.assertEqual(sorted(found), sorted(wanted))

    def test_orders_of_four_and_more(self):
        self.assertEqual(sum(len(order) == 4 for order in SMALL_ORDERS), 219)
        for order in ORDERS:
            self.yes(order)

    def test_nine_things(self):
        self.yes(loose_order(9))
        self.yes(chain_order(tuple(range(9))))
        self.yes(chain_order((8, 7, 6, 5, 4, 3, 2, 1, 0)))
        self.yes(chain_order((3, 8, 1, 0, 7, 2, 6, 5, 4)))

    def test_ten_rows_and_more(self):
        for n in (10, 11, 12, 100, 300):
            self.no(loose_order(n))
            self.no(chain_order(tuple(range(n))))

    def test_rows_that_do_not_rise(self):
        self.no(((), (), (1, 0)))
        self.no(((), (0,), (1, 0)))
        self.no(((), (), (), (0, 2, 1)))
        self.no(((), (), (), (1, 2, 0)))

    def test_a_thing_twice(self):
        self.no(((), (0, 0)))
        self.no(((1, 1), ()))
        self.no(((), (0,), (0, 1, 1)))
        self.no(((), (0,) * 300))

    def test_a_thing_under_itself(self):
        self.no(((0,),))
        self.no(((), (1,)))
        self.no(((), (0, 1)))
        self.no(((),) * 8 + ((8,),))

    def test_numbers_that_are_no_things(self):
        for n in (1, 2, 5, 9):
            for stranger in STRANGERS + (n, n + 1, -n):
                self.no(loose_order(n - 1) + ((stranger,),))
                self.no(((stranger,),) + loose_order(n - 1))
        self.no(((), (-1, 0)))
        self.no(((), (0, 2)))
        self.no(((), (0,), (-3, 0, 1)))

    def test_a_row_that_leaves_out_what_lies_under(self):
        self.no(((), (0,), (1,)))
        self.no(((1,), (2,), ()))
        self.no(((), (0,), (0, 1), (0, 2)))
        self.no(((), (0,), (0, 1), (1, 2)))
        self.no(((), (0,), (0, 1), (2,)))

    def test_two_things_each_under_the_other(self):
        self.no(((1,), (0,)))
        self.no(((0, 1), (0, 1)))
        self.no(((), (2,), (1,)))
        self.no(((1, 2), (0, 2), (0, 1)))
        self.no(((2,), (0,), (1,)))

    def test_one_pair_taken_from_an_order_or_put_to_it(self):
        for order in greater_orders(11):
            n = len(order)
            held = pairs_from(order)
            for pair in itertools.product(range(n), repeat=2):
                changed = held ^ {pair}
                wanted = closure(n, changed) == changed and all((a, a) not in changed for a in range(n))
                check(self, wanted, is_order, rows_from(n, changed))

    def test_long_rows(self):
        self.no((tuple(range(300)),))
        self.no(((), tuple(range(300))))
        self.no(((), tuple(range(-299, 1))))


class TiesTest(unittest.TestCase):
    def test_plain_cases(self):
        check(self, (), ties_of, ())
        check(self, (), bare_ties, ())
        check(self, (), ties_of, loose_order(9))
        check(self, (), bare_ties, loose_order(9))
        check(self, ((0, 1), (0, 2), (1, 2)), ties_of, EXAMPLE)
        check(self, ((0, 1), (1, 2)), bare_ties, EXAMPLE)
        check(self, ((1, 0),), ties_of, ((1,), ()))
        check(self, ((1, 0), (2, 0), (2, 1)), ties_of, ((1, 2), (2,), ()))
        check(self, ((1, 0), (2, 1)), bare_ties, ((1, 2), (2,), ()))
        check(self, ((0, 2), (1, 0)), bare_ties, ((1,), (), (0, 1)))

    def test_things_between_by_more_than_one_way(self):
        diamond = ((), (0,), (0,), (0, 1, 2))
        check(self, ((0, 1), (0, 2), (0, 3), (1, 3), (2, 3)), ties_of, diamond)
        check(self, ((0, 1), (0, 2), (1, 3), (2, 3)), bare_ties, diamond)

    def test_all_ties_of_many_orders(self):
        for order in ORDERS:
            check(self, tuple(sorted(pairs_from(order))), ties_of, order)

    def test_bare_ties_of_many_orders(self):
        for order in ORDERS:
            pairs = pairs_from(order)
            bare = [
                (a, b) for a, b in pairs
                if not any((a, c) in pairs and (c, b) in pairs for c in range(len(order)))
            ]
            check(self, tuple(sorted(bare)), bare_ties, order)

    def test_of_its_bare_ties_each_order_is_made_again(self):
        for order in ORDERS:
            check(self, order, order_of, len(order), told(self, bare_ties, order))


class OrderOfTest(unittest.TestCase):
    def test_no_ties(self):
        for n in range(10):
            check(self, loose_order(n), order_of, n, ())

    def test_plain_cases(self):
        check(self, EXAMPLE, order_of, 3, ((0, 1), (1, 2)))
        check(self, EXAMPLE, order_of, 3, ((1, 2), (0, 2), (0, 1)))
        check(self, ((1,), ()), order_of, 2, ((1, 0), (1, 0), (1, 0)))
        check(self, chain_order(tuple(range(9))), order_of, 9, tuple((a, a + 1) for a in range(8)))
        check(self, chain_order(tuple(range(8, -1, -1))), order_of, 9, tuple((a + 1, a) for a in range(8)))

    def test_ties_in_any_order_some_more_than_once(self):
        chance = random.Random(6)
        for order in ORDERS:
            ties = list(bare_ties(order))
            more = [tie for tie in ties_of(order) if chance.random() < 0.5]
            given = ties + more + ties[:2]
            chance.shuffle(given)
            check(self, order, order_of, len(order), tuple(given))

    def test_three_hundred_ties(self):
        chance = random.Random(7)
        for order in greater_orders(8, sizes=(9,)):
            ties = list(ties_of(order))
            given = (ties * 300)[:300]
            chance.shuffle(given)
            check(self, order, order_of, 9, tuple(given))

    def test_every_two_ties_of_three_things(self):
        pairs = list(itertools.product(range(-1, 4), repeat=2))
        for ties in itertools.product(pairs, repeat=2):
            self.answer_is_due(3, ties)

    def test_many_ties_by_chance(self):
        chance = random.Random(9)
        for turn in range(400):
            n = chance.randrange(1, 10)
            many = chance.choice((1, 2, 3, 5, 8))
            ties = tuple((chance.randrange(n), chance.randrange(n)) for tie in range(many))
            self.answer_is_due(n, ties)

    def answer_is_due(self, n, ties):
        held = closure(n, ties)
        if any(not 0 <= number < n for tie in ties for number in tie):
            refused(self, "NoThing", order_of, n, ties)
        elif any(a == b for a, b in held):
            refused(self, "Looped", order_of, n, ties)
        else:
            check(self, rows_from(n, held), order_of, n, ties)

    def test_numbers_that_are_no_things(self):
        for n in range(10):
            for stranger in STRANGERS + (n, n + 1):
                refused(self, "NoThing", order_of, n, ((stranger, 0),))
                refused(self, "NoThing", order_of, n, ((0, stranger),))
                refused(self, "NoThing", order_of, n, ((stranger, stranger),))

    def test_no_thing_goes_ahead_of_looped(self):
        for stranger in STRANGERS + (3, 4):
            refused(self, "NoThing", order_of, 3, ((0, 1), (1, 0), (2, stranger)))
            refused(self, "NoThing", order_of, 3, ((stranger, 2), (1, 1)))
            refused(self, "NoThing", order_of, 3, ((1, 1), (0, 1), (stranger, 2)))
            refused(self, "NoThing", order_of, 3, ((0, 1), (1, 2), (2, 0)) * 99 + ((0, stranger),))

    def test_looped(self):
        for n in range(1, 10):
            for thing in range(n):
                refused(self, "Looped", order_of, n, ((thing, thing),))
        refused(self, "Looped", order_of, 2, ((0, 1), (1, 0)))
        refused(self, "Looped", order_of, 3, ((2, 0), (0, 1), (1, 2)))
        refused(self, "Looped", order_of, 9, tuple((a, (a + 1) % 9) for a in range(9)))
        refused(self, "Looped", order_of, 4, ((0, 1),) * 298 + ((2, 3), (3, 2)))

    def test_same_answer_behind_a_refusal(self):
        before = order_of(3, ((0, 1), (1, 2)))
        refused(self, "Looped", order_of, 3, ((0, 1), (1, 0)))
        refused(self, "NoThing", order_of, 3, ((0, 3),))
        check(self, before, order_of, 3, ((0, 1), (1, 2)))


class PutUnderTest(unittest.TestCase):
    def test_every_two_things_of_many_orders(self):
        for order in ORDERS:
            n = len(order)
            for a, b in itertools.product(range(n), repeat=2):
                if a == b or (b, a) in pairs_from(order):
                    refused(self, "Looped", put_under, order, a, b)
                else:
                    wanted = rows_from(n, closure(n, pairs_from(order) | {(a, b)}))
                    check(self, wanted, put_under, order, a, b)

    def test_all_that_follows(self):
        two_chains = ((), (0,), (), (2,))
        check(self, ((), (0,), (0, 1), (0, 1, 2)), put_under, two_chains, 1, 2)
        check(self, ((2, 3), (0, 2, 3), (), (2,)), put_under, two_chains, 3, 0)

    def test_same_order_where_it_lies_under_already(self):
        for order in ORDERS:
            for a, b in pairs_from(order):
                check(self, order, put_under, order, a, b)

    def test_no_thing(self):
        for order in ((), ((),), EXAMPLE, loose_order(9), chain_order((4, 2, 0, 1, 3))):
            for stranger in STRANGERS + (len(order), len(order) + 1):
                refused(self, "NoThing", put_under, order, stranger, 0)
                refused(self, "NoThing", put_under, order, 0, stranger)

    def test_no_thing_goes_ahead_of_looped(self):
        for order in ((), EXAMPLE, loose_order(9)):
            for stranger in STRANGERS + (len(order),):
                refused(self, "NoThing", put_under, order, stranger, stranger)

    def test_same_answer_behind_a_refusal(self):
        before = put_under(loose_order(3), 0, 1)
        refused(self, "Looped", put_under, before, 1, 0)
        check(self, ((), (0,), ()), put_under, loose_order(3), 0, 1)
        self.assertEqual(before, ((), (0,), ()))


class PartOfTest(unittest.TestCase):
    def wanted(self, order, things):
        pairs = {
            (things.index(a), things.index(b)) for a, b in pairs_from(order)
            if a in things and b in things
        }
        return rows_from(len(things), pairs)

    def test_every_choice_of_things(self):
        for order in SMALL_ORDERS + greater_orders(3, sizes=(5, 9), shares=(0.3, 0.8)):
            for size in range(len(order) + 1):
                for things in itertools.combinations(range(len(order)), size):
                    check(self, self.wanted(order, things), part_of, order, things)

    def test_none_and_all(self):
        for order in ORDERS:
            check(self, (), part_of, order, ())
            check(self, order, part_of, order, tuple(range(len(order))))

    def test_numbered_anew(self):
        check(self, ((), (0,)), part_of, EXAMPLE, (0, 2))
        check(self, ((1,), ()), part_of, chain_order((8, 7, 6, 5, 4, 3, 2, 1, 0)), (3, 8))

    def test_no_thing(self):
        for order in ((), ((),), EXAMPLE, loose_order(9)):
            for stranger in STRANGERS + (len(order), len(order) + 1):
                refused(self, "NoThing", part_of, order, (stranger,))
                if order:
                    refused(self, "NoThing", part_of, order, tuple(sorted((0, stranger))))
            refused(self, "NoThing", part_of, order, tuple(range(len(order) + 1)))
            refused(self, "NoThing", part_of, order, tuple(range(300)))

    def test_not_rising(self):
        refused(self, "NoThing", part_of, EXAMPLE, (1, 0))
        refused(self, "NoThing", part_of, EXAMPLE, (0, 2, 1))
        refused(self, "NoThing", part_of, EXAMPLE, (2, 0, 1))
        refused(self, "NoThing", part_of, EXAMPLE, (1, 1))
        refused(self, "NoThing", part_of, EXAMPLE, (0, 1, 1, 2))
        refused(self, "NoThing", part_of, EXAMPLE, (0,) * 300)

    def test_same_answer_behind_a_refusal(self):
        before = part_of(EXAMPLE, (1, 2))
        refused(self, "NoThing", part_of, EXAMPLE, (2, 1))
        check(self, before, part_of, EXAMPLE, (1, 2))


if __name__ == "__main__":
    unittest.main()
