import itertools
import random
import unittest

from risecount.alike import laying, told_apart
from risecount.counts import count_at, polynomial
from risecount.fillings import count_plain
from tests.helper import (
    FAR_KS, SMALL_ORDERS, chain_order, check, closure, count_by_trying, greater_orders, loose_order, order_by_chance,
    pairs_from, refused, rows_from, told,
)

TINY_ORDERS = tuple(order for order in SMALL_ORDERS if len(order) < 4)
FOUR_THINGS = tuple(order for order in SMALL_ORDERS if len(order) == 4)
GREAT_ORDERS = greater_orders(181) + greater_orders(182, sizes=(7, 8, 9), shares=(0.4, 0.6, 0.7, 0.8))
FALLING = chain_order((8, 7, 6, 5, 4, 3, 2, 1, 0))


def bare_by_words(order):
    pairs = pairs_from(order)
    return {(a, b) for a, b in pairs if not any((a, c) in pairs and (c, b) in pairs for c in range(len(order)))}


def is_laying(one, other, laid):
    """By the words of the document, of a tuple of any things."""
    n = len(one)
    if len(other) != n or sorted(laid) != list(range(n)):
        return False
    pairs, others = pairs_from(one), pairs_from(other)
    if any(((a, b) in pairs) != ((laid[a], laid[b]) in others) for a, b in itertools.permutations(range(n), 2)):
        return False
    return all((a > b) == (laid[a] > laid[b]) for a, b in bare_by_words(one))


def laying_by_trying(one, other):
    if len(one) != len(other):
        return None
    tried = itertools.permutations(range(len(one)))
    return next((laid for laid in tried if is_laying(one, other, laid)), None)


def layings_step_by_step(one, other):
    """All layings, one thing after the other; for orders that are mostly tied."""
    pairs, others, bare = pairs_from(one), pairs_from(other), bare_by_words(one)
    begun = [()]
    for new in range(len(one)):
        longer = [laid + (thing,) for laid in begun for thing in range(len(one)) if thing not in laid]
        begun = [
            laid for laid in longer
            if all(
                (tie in pairs) == ((laid[tie[0]], laid[tie[1]]) in others)
                and (tie not in bare or (tie[0] > tie[1]) == (laid[tie[0]] > laid[tie[1]]))
                for old in range(new) for tie in ((old, new), (new, old))
            )
        ]
    return begun


def named_anew(order, chance):
    """The order by other names, strict at the same bare ties; and the new name of each thing."""
    asked = {(a, b) if a < b else (b, a) for a, b in bare_by_words(order)}
    left = set(range(len(order)))
    names = {}
    while left:
        free = sorted(thing for thing in left if not any(a in left and b == thing for a, b in asked))
        thing = chance.choice(free)
        names[thing] = len(names)
        left.remove(thing)
    anew = tuple(names[thing] for thing in range(len(order)))
    return rows_from(len(order), {(anew[a], anew[b]) for a, b in pairs_from(order)}), anew


def named_by(order, names):
    return rows_from(len(order), {(names[a], names[b]) for a, b in pairs_from(order)})


class LayingTest(unittest.TestCase):
    def test_example_of_the_document(self):
        check(self, (0, 2, 1), laying, ((1,), (), (0, 1)), ((2,), (0, 2), ()))
        check(self, (0, 2, 1), laying, ((2,), (0, 2), ()), ((1,), (), (0, 1)))

    def test_orders_seen_by_eye(self):
        check(self, (), laying, (), ())
        check(self, (0,), laying, ((),), ((),))
        check(self, (0, 1), laying, ((), ()), ((), ()))
        check(self, None, laying, ((), (0,)), ((1,), ()))
        check(self, None, laying, ((1,), ()), ((), (0,)))
        check(self, (2, 0, 1), laying, ((), (), (1,)), ((), (0,), ()))
        check(self, None, laying, ((), (0,), (0,)), ((), (), (0, 1)))

    def test_every_two_tiny_orders_by_trying(self):
        for one, other in itertools.product(TINY_ORDERS, repeat=2):
            check(self, laying_by_trying(one, other), laying, one, other)

    def test_orders_of_four_things_by_trying(self):
        chance = random.Random(183)
        pairs = [(chance.choice(FOUR_THINGS), chance.choice(FOUR_THINGS)) for turn in range(1500)]
        pairs += [(one, named_by(one, chance.sample(range(4), 4))) for one in FOUR_THINGS for turn in range(4)]
        pairs += [(one, named_anew(one, chance)[0]) for one in FOUR_THINGS for turn in range(2)]
        for one, other in pairs:
            check(self, laying_by_trying(one, other), laying, one, other)

    def test_orders_of_five_and_six_things_by_trying(self):
        chance = random.Random(184)
        for n, share in itertools.product((5, 6), (0.1, 0.2, 0.35, 0.5, 0.8)):
            one = order_by_chance(n, share, chance)
            for other in (one, named_anew(one, chance)[0], named_by(one, chance.sample(range(n), n))):
                check(self, laying_by_trying(one, other), laying, one, other)

    def test_not_as_many_things(self):
        for one, other in itertools.product(TINY_ORDERS[::4] + GREAT_ORDERS[::9] + (FALLING, loose_order(9)), repeat=2):
            if len(one) != len(other):
                check(self, None, laying, one, other)
        for n in range(9):
            check(self, None, laying, loose_order(n), loose_order(n + 1))
            check(self, None, laying, loose_order(n + 1), loose_order(n))

    def test_an_order_laid_on_itself(self):
        for order in SMALL_ORDERS + GREAT_ORDERS:
            # The first laying of all is the one that leaves everything where it is.
            check(self, tuple(range(len(order))), laying, order, order)

    def test_named_anew(self):
        chance = random.Random(185)
        for one in GREAT_ORDERS:
            other, names = named_anew(one, chance)
            laid = told(self, laying, one, other)
            self.assertTrue(is_laying(one, other, laid), (one, other, laid))
            self.assertLessEqual(laid, names)
            self.assertTrue(is_laying(other, one, told(self, laying, other, one)))

    def test_seven_to_nine_things_mostly_tied(self):
        chance = random.Random(186)
        found = {True: 0, False: 0}
        for n, share in itertools.product((7, 8, 9), (0.4, 0.5, 0.6, 0.7, 0.8)):
            for turn in range(4):
                one = order_by_chance(n, share, chance)
                for other in (named_anew(one, chance)[0], named_by(one, chance.sample(range(n), n))):
                    layings = layings_step_by_step(one, other)
                    check(self, min(layings, default=None), laying, one, other)
                    found[bool(layings)] += 1
        self.assertGreater(min(found.values()), 20)

    def test_strictness_of_bare_ties_alone(self):
        for names in itertools.permutations(range(4)):
            for others in itertools.permutations(range(4)):
                same = all((names[i] > names[i + 1]) == (others[i] > others[i + 1]) for i in range(3))
                wanted = tuple(others[names.index(thing)] for thing in range(4)) if same else None
                check(self, wanted, laying, chain_order(names), chain_order(others))

    def test_one_bare_tie_of_the_other_kind(self):
        # 4 things under one another by plain ties; by other names one of the ties is strict.
        rising = chain_order((0, 1, 2, 3))
        for names in ((1, 0, 2, 3), (0, 2, 1, 3), (0, 1, 3, 2), (1, 2, 3, 0)):
            check(self, None, laying, rising, chain_order(names))
        # Two ties, as many strict ones in both orders, but not at the same places.
        check(self, None, laying, chain_order((1, 0, 2)), chain_order((0, 2, 1)))

    def test_like_ties_at_every_thing_but_not_alike(self):
        # Eight things around: in one round of eight, and in two rounds of four.
        one = rows_from(9, {(a, 4 + (a + step) % 4) for a in range(4) for step in (0, 1)})
        two = rows_from(9, {(a, 4 + a // 2 * 2 + step) for a in range(4) for step in (0, 1)})
        check(self, None, laying, one, two)
        check(self, None, laying, two, one)

    def test_nine_things_with_few_ties_or_none(self):
        chance = random.Random(187)
        check(self, tuple(range(9)), laying, loose_order(9), loose_order(9))
        for a, b in itertools.combinations(range(9), 2):
            plain, strict = rows_from(9, {(a, b)}), rows_from(9, {(b, a)})
            check(self, None, laying, plain, strict)
            check(self, None, laying, plain, loose_order(9))
            check(self, None, laying, loose_order(9), strict)
            for one, other in ((plain, rows_from(9, {(7, 8)})), (strict, rows_from(9, {(8, 7)}))):
                rest = iter(range(7))
                wanted = tuple(7 if thing == a else 8 if thing == b else next(rest) for thing in range(9))
                check(self, wanted, laying, one, other)
        for turn in range(40):
            one = order_by_chance(9, 0.06, chance)
            other = order_by_chance(9, 0.06, chance)
            laid = told(self, laying, one, other)
            self.assertEqual(laid is None, laying(other, one) is None)
            self.assertTrue(laid is None or is_laying(one, other, laid))
            other, names = named_anew(one, chance)
            self.assertTrue(is_laying(one, other, told(self, laying, one, other)))

    def test_the_two_exchanged(self):
        chance = random.Random(188)
        for turn in range(400):
            one, other = chance.choice(FOUR_THINGS), chance.choice(FOUR_THINGS)
            self.assertEqual(laying(one, other) is None, laying(other, one) is None)

    def test_same_answer_behind_a_refusal(self):
        one, other = ((1,), (), (0, 1)), ((2,), (0, 2), ())
        before = (laying(one, other), told_apart(one, other), told_apart(one, ()))
        refused(self, "NoNumber", count_plain, one, -1)
        self.assertEqual(before, (laying(one, other), told_apart(one, other), told_apart(one, ())))


class ToldApartTest(unittest.TestCase):
    def seen(self, one, other):
        """The answer, seen to be as the document tells, counts being asked of the program."""
        answer = told(self, told_apart, one, other)
        laid = laying(one, other)
        if laid is not None:
            self.assertEqual(answer, ("alike", laid))
            self.assertEqual(polynomial(one), polynomial(other))
        elif len(one) == len(other) and polynomial(one) == polynomial(other):
            self.assertEqual(answer, ("same",))
        else:
            self.assertEqual((answer[0], len(answer)), ("apart", 2))
            for k in range(answer[1]):
                self.assertEqual(count_at(one, k), count_at(other, k))
            self.assertNotEqual(count_at(one, answer[1]), count_at(other, answer[1]))
        return answer

    def test_example_of_the_document(self):
        check(self, ("same",), told_apart, ((), (0,), (0,)), ((), (), (0, 1)))
        check(self, ("same",), told_apart, ((), (), (0, 1)), ((), (0,), (0,)))
        check(self, ("alike", (0, 2, 1)), told_apart, ((1,), (), (0, 1)), ((2,), (0, 2), ()))

    def test_orders_seen_by_eye(self):
        check(self, ("alike", ()), told_apart, (), ())
        check(self, ("apart", 0), told_apart, (), ((),))
        check(self, ("apart", 0), told_apart, ((),), ())
        check(self, ("apart", 2), told_apart, ((),), ((), ()))
        check(self, ("apart", 1), told_apart, ((), (0,)), ((1,), ()))
        check(self, ("apart", 2), told_apart, ((), (0,)), ((), ()))

    def test_every_two_tiny_orders(self):
        for one, other in itertools.product(TINY_ORDERS, repeat=2):
            answer = self.seen(one, other)
            if answer[0] == "apart":
                k = answer[1]
                self.assertNotEqual(count_by_trying(one, k), count_by_trying(other, k))
            for k in range(answer[1] if answer[0] == "apart" else 5):
                self.assertEqual(count_by_trying(one, k), count_by_trying(other, k))

    def test_all_three_words_come_among_orders_of_four_things(self):
        chance = random.Random(189)
        words = {"alike": 0, "same": 0, "apart": 0}
        for turn in range(800):
            words[self.seen(chance.choice(FOUR_THINGS), chance.choice(FOUR_THINGS))[0]] += 1
        self.assertGreater(min(words.values()), 5)

    def test_greater_orders(self):
        chance = random.Random(190)
        for one in GREAT_ORDERS[::3]:
            self.seen(one, chance.choice(GREAT_ORDERS))
            self.assertEqual(self.seen(one, named_anew(one, chance)[0])[0], "alike")

    def test_same_counts_at_all_k(self):
        # Turned and upside down an order has its own counts, whether they are alike or not.
        words = {"alike": 0, "same": 0}
        for one in GREAT_ORDERS:
            last = len(one) - 1
            other = rows_from(len(one), {(last - b, last - a) for a, b in pairs_from(one)})
            answer = self.seen(one, other)
            words[answer[0]] += 1
            for k in FAR_KS[:2]:
                self.assertEqual(count_at(one, k), count_at(other, k))
        self.assertGreater(words["same"], 5)

    def test_unlike_numbers_of_things(self):
        orders = [chain_order(tuple(range(n))) for n in range(10)] + [loose_order(n) for n in range(10)]
        orders += [chain_order(tuple(range(n - 1, -1, -1))) for n in range(10)]
        for one, other in itertools.product(orders, repeat=2):
            if len(one) != len(other):
                self.assertEqual(self.seen(one, other)[0], "apart")
        check(self, ("apart", 8), told_apart, FALLING, chain_order((7, 6, 5, 4, 3, 2, 1, 0)))
        check(self, ("apart", 2), told_apart, chain_order(tuple(range(9))), chain_order(tuple(range(8))))

    def test_strict_rows_are_told_apart_late(self):
        # By less than 9 nothing rises for the one, by less than 8 for the other.
        eight = rows_from(9, closure(9, {(a + 1, a) for a in range(7)}))
        check(self, ("apart", 8), told_apart, FALLING, eight)
        check(self, ("apart", 8), told_apart, eight, FALLING)

    def test_the_two_exchanged(self):
        chance = random.Random(191)
        orders = FOUR_THINGS + TINY_ORDERS + GREAT_ORDERS
        for turn in range(300):
            one, other = chance.choice(orders), chance.choice(orders)
            answer, back = told_apart(one, other), told_apart(other, one)
            self.assertEqual(answer[0], back[0])
            if answer[0] != "alike":
                self.assertEqual(answer, back)


if __name__ == "__main__":
    unittest.main()
