import random
import unittest

from risecount.counts import count_at
from risecount.cutpaper import counted_by, cut_paper, shows_cuts
from risecount.goings import goings_many
from tests.helper import (
    FAR_NUMBERS, HUGE, K_60, SMALL_ORDERS, chain_order, check, chosen_by_words, count_by_trying, goings_by_trying,
    greater_orders, is_closed, loose_by_words, loose_order, pairs_from, put_by_words, refused, rows_from, told,
)

# Orders of just 100 goings and of 99, and such of one more.
HUNDRED = (
    ((3, 4, 5, 6), (6,), (1, 3, 4, 6), (6,), (), (), ()),
    ((3, 6, 7), (2, 3, 7), (3,), (), (3, 6, 7), (1, 2, 3, 7), (3, 7), ()),
    ((4, 7), (4, 7, 8), (1, 3, 4, 5, 7, 8), (4, 7), (), (4, 7, 8), (0, 3, 4, 5, 7, 8), (4,), (4, 7)),
)
NEXT_BELOW = (
    ((1, 2, 3, 4, 5, 6), (2, 3, 4), (4,), (), (), (), (2, 4), (1, 2, 3, 4, 5)),
    ((), (0, 2), (0,), (), (0, 1, 2), (0, 1, 2, 3, 8), (0, 1, 2, 3, 8), (0, 1, 2, 3, 5, 8), (0, 2, 3)),
)
ONE_TOO_MANY = (
    ((1, 2, 3, 6), (2, 3, 6), (), (), (2,), (2, 6), ()),
    ((2, 4, 5), (2, 3, 4, 5), (), (2, 5), (), (2,), (2,), (1, 2, 3, 4, 5)),
    ((4, 7, 8), (0, 4, 5, 6, 7, 8), (3, 5, 6, 7, 8), (5, 6, 7, 8), (), (8,), (5, 7, 8), (8,), ()),
)
GREATER = tuple(
    order for order in greater_orders(141, shares=(0.3, 0.4, 0.5, 0.6, 0.7, 0.8)) if goings_many(order) <= 100
)
CHAINS = (chain_order(tuple(range(9))), chain_order((3, 8, 1, 0, 7, 2, 6, 5, 4)))
PAPERED = SMALL_ORDERS + GREATER + CHAINS + HUNDRED + NEXT_BELOW
TWO = ((), ())
TWO_ROWS = ((((), (0,)), ()), (((1,), ()), ()), (TWO, (0, 1, 0, 1)))
KS = (0, 1, 2, 3, 9, -1, -2, -3, -9, K_60, -K_60, 10 ** 59 + 7, -(10 ** 30))


def paper_by_words(order):
    whys = {}
    waiting = [order]
    while waiting:
        some = waiting.pop()
        pairs = loose_by_words(some)
        parts = (put_by_words(some, *pairs[0]), put_by_words(some, *pairs[0][::-1])) if pairs else ()
        whys[some] = (pairs[:1], parts)
        waiting += [part for part in parts if part not in whys]
    sorted_orders = sorted(whys, key=lambda some: (-len(pairs_from(some)), some))
    rows = []
    for some in sorted_orders:
        first, parts = whys[some]
        rows.append((some, (first[0] + tuple(map(sorted_orders.index, parts))) if first else ()))
    return tuple(rows)


def is_order_by_words(rows):
    things = range(len(rows))
    if len(rows) > 9 or any(thing not in things for row in rows for thing in row):
        return False
    pairs = pairs_from(rows)
    return is_closed(pairs) and rows == rows_from(len(rows), pairs)


def why_holds_by_words(rows, number):
    order, why = rows[number]
    pairs = loose_by_words(order)
    if not pairs or len(why) != 4:
        return not pairs and why == ()
    a, b, i, j = why
    if tuple(sorted((a, b))) not in pairs or i not in range(number) or j not in range(number):
        return False
    return rows[i][0] == put_by_words(order, a, b) and rows[j][0] == put_by_words(order, b, a)


def looks_by_words(order, rows):
    if len(rows) == 0 or rows[-1][0] != order:
        return False
    if not all(is_order_by_words(some) and len(some) == len(order) for some, why in rows):
        return False
    return all(why_holds_by_words(rows, number) for number in range(len(rows)))


def loose_paper(order, chance):
    """Rows that hold, for cuts at any loose pairs either way about, orders standing as often as they come up."""
    rows = []

    def add_order(some):
        pairs = loose_by_words(some)
        why = ()
        if pairs:
            a, b = chance.choice(pairs)[::chance.choice((1, -1))]
            why = (a, b, add_order(put_by_words(some, a, b)), add_order(put_by_words(some, b, a)))
        rows.append((some, why))
        return len(rows) - 1

    add_order(order)
    return tuple(rows)


def with_row(rows, number, row):
    return rows[:number] + (row,) + rows[number + 1:]


class CutPaperTest(unittest.TestCase):
    def test_papers_seen_by_eye(self):
        check(self, (((), ()),), cut_paper, ())
        check(self, ((((),), ()),), cut_paper, ((),))
        check(self, TWO_ROWS, cut_paper, TWO)
        example = (
            (((), (0,), (0, 1)), ()), (((), (0, 2), (0,)), ()), (((), (0,), (0,)), (1, 2, 0, 1)),
        )
        check(self, example, cut_paper, ((), (0,), (0,)))

    def test_every_paper_by_words(self):
        for order in PAPERED:
            check(self, paper_by_words(order), cut_paper, order)

    def test_rows_of_papers(self):
        for order in PAPERED:
            rows = cut_paper(order)
            self.assertEqual(len(rows), 2 * goings_many(order) - 1)
            self.assertEqual(rows[-1][0], order)
            self.assertEqual(len({some for some, why in rows}), len(rows))
            keys = [(-len(pairs_from(some)), some) for some, why in rows]
            self.assertEqual(keys, sorted(keys))
            for number, (some, why) in enumerate(rows):
                self.assertEqual(why[:2], loose_by_words(some)[0] if loose_by_words(some) else ())
                self.assertTrue(all(0 <= named < number for named in why[2:]))

    def test_just_a_hundred_goings_and_next_below(self):
        for order in HUNDRED:
            self.assertEqual(len(goings_by_trying(order)) if len(order) < 9 else goings_many(order), 100)
            self.assertEqual(len(told(self, cut_paper, order)), 199)
        for order in NEXT_BELOW:
            self.assertEqual(len(told(self, cut_paper, order)), 197)

    def test_too_great(self):
        for order in ONE_TOO_MANY:
            check(self, 101, goings_many, order)
            refused(self, "TooGreat", cut_paper, order)
        for n in range(5, 10):
            refused(self, "TooGreat", cut_paper, loose_order(n))

    def test_one_going(self):
        for order in CHAINS:
            check(self, ((order, ()),), cut_paper, order)

    def test_same_answer_behind_a_refusal(self):
        before = (cut_paper(TWO), shows_cuts(TWO, TWO_ROWS), counted_by(TWO_ROWS, 5))
        refused(self, "TooGreat", cut_paper, loose_order(9))
        self.assertEqual(before, (cut_paper(TWO), shows_cuts(TWO, TWO_ROWS), counted_by(TWO_ROWS, 5)))
        self.assertEqual(before, (TWO_ROWS, True, 25))


class ShowsCutsTest(unittest.TestCase):
    def test_each_cut_paper(self):
        for order in PAPERED:
            check(self, True, shows_cuts, order, cut_paper(order))

    def test_any_loose_pairs_either_way_about(self):
        chance = random.Random(142)
        for order in PAPERED:
            rows = loose_paper(order, chance)
            self.assertTrue(looks_by_words(order, rows))
            check(self, True, shows_cuts, order, rows)

    def test_rows_that_stand_more_than_once(self):
        for order in PAPERED[::5]:
            rows = cut_paper(order)
            check(self, True, shows_cuts, order, rows[:1] + shifted(rows, 1))
            check(self, True, shows_cuts, order, rows + rows[-1:])
            if 2 * len(rows) <= 300:
                check(self, True, shows_cuts, order, rows + shifted(rows, len(rows)))
                check(self, True, shows_cuts, order, rows + rows)

    def test_rows_that_no_other_one_names(self):
        other = cut_paper(((1,), (), (), ()))
        order = ((), (0,), (0,), (0,))
        rows = cut_paper(order)
        check(self, True, shows_cuts, order, other + shifted(rows, len(other)))
        check(self, True, shows_cuts, order, (other[0],) + shifted(rows, 1))
        check(self, False, shows_cuts, order, rows + other)

    def test_a_pair_named_the_other_way_about(self):
        check(self, True, shows_cuts, TWO, with_row(TWO_ROWS, 2, (TWO, (1, 0, 1, 0))))
        check(self, False, shows_cuts, TWO, with_row(TWO_ROWS, 2, (TWO, (1, 0, 0, 1))))
        check(self, False, shows_cuts, TWO, with_row(TWO_ROWS, 2, (TWO, (0, 1, 1, 0))))

    def test_no_rows(self):
        for order in PAPERED:
            check(self, False, shows_cuts, order, ())

    def test_another_order_in_the_last_row(self):
        for order in PAPERED[1:]:
            rows = cut_paper(order)
            check(self, False, shows_cuts, (), rows)
            if len(order) < 9:
                check(self, False, shows_cuts, order + ((),), rows)
            if len(rows) > 1:
                check(self, False, shows_cuts, rows[0][0], rows)
                check(self, False, shows_cuts, order, rows[:-1])
        check(self, False, shows_cuts, ((), (0,)), ((((1,), ()), ()),))

    def test_a_first_that_is_no_order(self):
        for wrong in (
            ((0,), ()), ((1,), (0,)), ((), (0, 0)), ((), (-1,)), ((), (2,)), ((), (HUGE,)), ((), (-HUGE,)),
            ((), (0,) * 300), ((HUGE,) * 300, ()), ((-2,), ()), ((-1,), ()),
        ):
            for why in ((), (0, 1, 0, 0), (0, 1, 0, 1)):
                check(self, False, shows_cuts, TWO, ((wrong, why),) + shifted(TWO_ROWS, 1))
                check(self, False, shows_cuts, TWO, TWO_ROWS[:2] + ((wrong, why), TWO_ROWS[2]))
        no_closure = ((), (0,), (1,))
        order = ((), (0,), (0,))
        check(self, False, shows_cuts, order, ((no_closure, ()),) + shifted(cut_paper(order), 1))
        falling = ((), (), (1, 0))
        check(self, False, shows_cuts, order, ((falling, ()),) + shifted(cut_paper(order), 1))

    def test_a_first_of_another_number_of_things(self):
        for n in (0, 1, 3, 9, 10, 11, 300):
            rising = tuple(tuple(range(b)) for b in range(n))
            check(self, False, shows_cuts, TWO, ((rising, ()),) + shifted(TWO_ROWS, 1))
            check(self, False, shows_cuts, TWO, TWO_ROWS[:2] + ((rising, ()), TWO_ROWS[2]))
        for n in (1, 2, 9, 10, 300):
            check(self, False, shows_cuts, (), ((((),) * n, ()), ((), ())))
            check(self, False, shows_cuts, (), ((((HUGE,) * 300,) * n, ()), ((), ())))

    def test_a_why_of_another_length(self):
        for why in (
            (), (0,), (0, 1), (0, 1, 0), (0, 1, 0, 1, 0), (0, 1, 0, 1, 1, 1), (0, 1, 0, 1) * 75, (HUGE,) * 300,
            (0, 1, 0, 1, HUGE),
        ):
            check(self, False, shows_cuts, TWO, with_row(TWO_ROWS, 2, (TWO, why)))

    def test_a_why_where_there_are_no_loose_pairs(self):
        for why in ((0,), (0, 1), (0, 1, 0, 0), (1, 0, 0, 0), (0, 1, 0, 1), (HUGE,) * 300, (0, 0, 0, 0)):
            check(self, False, shows_cuts, TWO, with_row(TWO_ROWS, 0, (TWO_ROWS[0][0], why)))
            check(self, False, shows_cuts, TWO, with_row(TWO_ROWS, 1, (TWO_ROWS[1][0], why)))
            check(self, False, shows_cuts, (), (((), why),))
            check(self, False, shows_cuts, ((),), ((((),), why),))

    def test_things_that_are_not_loose_or_are_no_things(self):
        for stranger in (-1, -2, 2, 3) + FAR_NUMBERS:
            for why in ((stranger, 1, 0, 1), (0, stranger, 0, 1), (stranger, stranger, 0, 1), (1, stranger, 0, 1)):
                check(self, False, shows_cuts, TWO, with_row(TWO_ROWS, 2, (TWO, why)))
        check(self, False, shows_cuts, TWO, with_row(TWO_ROWS, 2, (TWO, (0, 0, 0, 1))))
        order = ((), (0,), (0,))
        rows = cut_paper(order)
        for a, b in ((0, 1), (1, 0), (0, 2), (2, 0), (1, 1)):
            check(self, False, shows_cuts, order, with_row(rows, 2, (order, (a, b, 0, 1))))

    def test_a_tie_named_with_its_own_order(self):
        # Put under again, a tied pair makes the same order: that must not pass for a cut.
        order = ((), (0,), (0,))
        rows = (cut_paper(order)[0], cut_paper(order)[1], (order, (1, 2, 0, 1)), (order, (0, 1, 2, 2)))
        check(self, False, shows_cuts, order, rows)

    def test_rows_named_that_stand_behind_or_nowhere(self):
        for wrong in (-1, -2, -3, 2, 3, 4) + FAR_NUMBERS:
            for why in ((0, 1, wrong, 1), (0, 1, 0, wrong), (0, 1, wrong, wrong)):
                check(self, False, shows_cuts, TWO, with_row(TWO_ROWS, 2, (TWO, why)))
        behind = (TWO_ROWS[0], (TWO, (0, 1, 0, 2)), TWO_ROWS[1], TWO_ROWS[2])
        check(self, False, shows_cuts, TWO, behind[:3] + ((TWO, (0, 1, 0, 2)),))
        check(self, True, shows_cuts, TWO, (TWO_ROWS[0], TWO_ROWS[0], TWO_ROWS[1], (TWO, (0, 1, 1, 2))))

    def test_the_last_row_named_from_behind(self):
        # Counted from the end, -1 would be the last row, and that holds just the order looked for.
        one, other = TWO_ROWS[:2]
        for why in ((0, 1, -1, 0), (0, 1, -3, 0), (1, 0, 0, -1), (1, 0, 0, 2), (0, 1, 2, 0)):
            check(self, False, shows_cuts, one[0], (other, (TWO, why), one))

    def test_rows_named_that_hold_another_order(self):
        for i in range(2):
            for j in range(2):
                check(self, (i, j) == (0, 1), shows_cuts, TWO, with_row(TWO_ROWS, 2, (TWO, (0, 1, i, j))))
        for order in GREATER[:6]:
            rows = cut_paper(order)
            if len(rows) > 3:
                a, b, i, j = rows[-1][1]
                for named in range(len(rows)):
                    check(self, named == i, shows_cuts, order, rows[:-1] + ((order, (a, b, named, j)),))
                    check(self, named == j, shows_cuts, order, rows[:-1] + ((order, (a, b, i, named)),))

    def test_a_row_left_out(self):
        for order in PAPERED[::9]:
            rows = cut_paper(order)
            for number in range(len(rows)):
                left = rows[:number] + rows[number + 1:]
                check(self, looks_by_words(order, left), shows_cuts, order, left)

    def test_altered_papers_by_words(self):
        chance = random.Random(143)
        truths = 0
        for turn in range(4000):
            order = chance.choice(SMALL_ORDERS)
            rows = altered(cut_paper(order), chance)
            wanted = looks_by_words(order, rows)
            truths += wanted
            self.assertIs(shows_cuts(order, rows), wanted, (order, rows))
        self.assertTrue(200 < truths < 3800, truths)

    def test_three_hundred_rows(self):
        check(self, True, shows_cuts, TWO, TWO_ROWS * 100)
        check(self, False, shows_cuts, TWO, TWO_ROWS * 99 + (TWO_ROWS[0], (TWO, ()), TWO_ROWS[2]))
        junk = (((HUGE,) * 300,) * 300, (HUGE,) * 300)
        check(self, False, shows_cuts, TWO, (junk,) * 299 + TWO_ROWS[2:])


class CountedByTest(unittest.TestCase):
    def test_known_counts(self):
        for k in KS:
            check(self, 1, counted_by, (((), ()),), k)
            check(self, k, counted_by, ((((),), ()),), k)
            check(self, k * k, counted_by, TWO_ROWS, k)
            check(self, k * (k + 1) // 2, counted_by, TWO_ROWS[:1], k)
            check(self, k * (k - 1) // 2, counted_by, TWO_ROWS[1:2], k)

    def test_papers_of_small_orders_by_trying(self):
        for order in SMALL_ORDERS:
            for k in range(4):
                check(self, count_by_trying(order, k), counted_by, cut_paper(order), k)

    def test_papers_against_the_counts(self):
        for order in PAPERED:
            rows = cut_paper(order)
            for k in KS:
                self.assertEqual(counted_by(rows, k), count_at(order, k))

    def test_nine_things_with_all_ties(self):
        for k in KS:
            check(self, chosen_by_words(k + 8, 9), counted_by, ((CHAINS[0], ()),), k)

    def test_other_rows_that_hold(self):
        chance = random.Random(144)
        for order in PAPERED[::3]:
            rows = loose_paper(order, chance)
            doubled = rows + rows[-1:]
            for k in KS:
                wanted = count_at(order, k)
                check(self, wanted, counted_by, rows, k)
                check(self, wanted, counted_by, doubled, k)

    def test_rows_that_no_other_one_names(self):
        other = cut_paper(((1,), (), (), ()))
        order = ((), (0,), (0,), (0,))
        rows = other + shifted(cut_paper(order), len(other))
        for k in KS:
            check(self, count_at(order, k), counted_by, rows, k)


def shifted(rows, many):
    """The rows as they are to name one another behind some more rows."""
    return tuple((some, why[:2] + tuple(named + many for named in why[2:])) for some, why in rows)


def altered(rows, chance):
    """The rows with one or two small things done to them, of which some leave them whole."""
    for turn in range(chance.choice((1, 1, 2))):
        number = chance.randrange(len(rows))
        some, why = rows[number]
        way = chance.randrange(6)
        if way == 0 and why:
            place = chance.randrange(4)
            why = why[:place] + (why[place] + chance.choice((-1, 1)),) + why[place + 1:]
        elif way == 1 and why:
            why = (why[1], why[0], why[3], why[2])
        elif way == 2:
            why = chance.choice(((), why[:3], (0, 1, 0, 1), (1, 0, 0, 0)))
        elif way == 3:
            some = chance.choice(SMALL_ORDERS)
        elif way == 4:
            rows = rows[:number] + (rows[number],) + shifted_from(rows, number)
            continue
        elif some:
            place = chance.randrange(len(some))
            row = some[place] + (chance.randrange(-1, 5),) if chance.random() < 0.5 else some[place][1:]
            some = some[:place] + (row,) + some[place + 1:]
        rows = with_row(rows, number, (some, why))
    return rows


def shifted_from(rows, number):
    """The rows from this one on, naming one more where they name this one or one behind it."""
    return tuple(
        (some, why[:2] + tuple(named + (named >= number) for named in why[2:])) for some, why in rows[number:]
    )


if __name__ == "__main__":
    unittest.main()
