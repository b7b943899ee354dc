"""What all tests share: asking twice, refusals of one class, and orders made without the program."""

import itertools
import math
import random

from risecount import errors

REFUSALS = (
    "NoThing", "Looped", "NoOrder", "NoNumber", "TooGreat", "NoGoing", "NoRow",
    "NoFilling", "NotLoose", "NotForest", "NoShape", "NoName", "NoLine",
)
HUGE = 10 ** 599 + 7
K_60 = 10 ** 60 - 1
FAR_KS = (K_60, -K_60, 10 ** 59, -(10 ** 59), 123456789 ** 6, -(987654321 ** 6))
FAR_NUMBERS = (HUGE, -HUGE, 10 ** 600 - 1, 1 - 10 ** 600)


def is_plain(value):
    """Whether a value is made of whole numbers, texts, truths, None and tuples alone."""
    if type(value) is tuple:
        return all(is_plain(item) for item in value)
    return value is None or type(value) in (int, str, bool)


def same(one, other):
    """Equal, and of the same kinds throughout: so that 1 does not pass for True."""
    if type(one) is not type(other):
        return False
    if type(one) is tuple:
        return len(one) == len(other) and all(same(a, b) for a, b in zip(one, other))
    return one == other


def told(case, call, *given):
    """What is told, asked twice, seen to be plain and the same both times."""
    first = call(*given)
    case.assertTrue(is_plain(first), (call.__name__, given, first))
    case.assertTrue(same(first, call(*given)), (call.__name__, given))
    return first


def check(case, wanted, call, *given):
    answer = told(case, call, *given)
    case.assertTrue(same(wanted, answer), (call.__name__, given, wanted, answer))


def refused(case, name, call, *given):
    """Seen is a refusal of the class named and of no other one but RiseError, and that twice."""
    for asking in range(2):
        try:
            answer = call(*given)
        except errors.RiseError as error:
            case.assertIsInstance(error, ValueError)
            held = [other for other in REFUSALS if isinstance(error, getattr(errors, other))]
            case.assertEqual(held, [name], (call.__name__, given))
        else:
            case.fail(f"{call.__name__}{given!r} told {answer!r}, {name} was due")


def rows_from(n, pairs):
    """The rows of n things for a closed collection of pairs."""
    return tuple(tuple(a for a in range(n) if (a, b) in pairs) for b in range(n))


def closure(n, pairs):
    """All pairs that follow from some, by going on until nothing new comes."""
    held = set(pairs)
    while True:
        more = {(a, d) for a, b in held for c, d in held if b == c} - held
        if not more:
            return held
        held |= more


def pairs_from(order):
    return {(a, b) for b, row in enumerate(order) for a in row}


def is_closed(pairs):
    if any(a == b for a, b in pairs):
        return False
    return all((a, d) in pairs for a, b in pairs for c, d in pairs if b == c)


def all_orders(n):
    """Every order of n things, out of all choices of pairs; for n up to 4."""
    unlike = [(a, b) for a in range(n) for b in range(n) if a != b]
    orders = []
    for chosen in itertools.product((False, True), repeat=len(unlike)):
        pairs = {pair for pair, taken in zip(unlike, chosen) if taken}
        if is_closed(pairs):
            orders.append(rows_from(n, pairs))
    return orders


SMALL_ORDERS = tuple(order for n in range(5) for order in all_orders(n))


def order_by_chance(n, share, chance):
    """An order of n things whose ties go by a mixed row of them, so not by their numbers."""
    names = list(range(n))
    chance.shuffle(names)
    pairs = {pair for pair in itertools.combinations(names, 2) if chance.random() < share}
    return rows_from(n, closure(n, pairs))


def greater_orders(seed, sizes=(5, 6, 7, 8, 9), shares=(0.1, 0.25, 0.5, 0.9)):
    chance = random.Random(seed)
    return tuple(order_by_chance(n, share, chance) for n in sizes for share in shares)


def loose_order(n):
    return ((),) * n


def chain_order(names):
    """Each thing of the row of names under all that stand behind it."""
    rows = [()] * len(names)
    for place, name in enumerate(names):
        rows[name] = tuple(sorted(names[:place]))
    return tuple(rows)


def goings_by_trying(order):
    """All goings, sorted, out of all rows of the things; for small orders."""
    pairs = pairs_from(order)
    return [
        tried for tried in itertools.permutations(range(len(order)))
        if all(tried.index(a) < tried.index(b) for a, b in pairs)
    ]


def rises_by_words(order, filling, k):
    if len(filling) != len(order) or k < 0 or any(number < 1 or number > k for number in filling):
        return False
    return all(filling[a] < filling[b] if a > b else filling[a] <= filling[b] for a, b in pairs_from(order))


def fillings_by_trying(order, k):
    """All fillings by k that rise, as tuples are ordered, out of all tuples; for small orders and k."""
    tried = itertools.product(range(1, k + 1), repeat=len(order))
    return [filling for filling in tried if rises_by_words(order, filling, k)]


def count_by_trying(order, k):
    return len(fillings_by_trying(order, k))


def is_row_by_words(going, row, k):
    if len(row) != len(going) or any(not 1 <= number <= k for number in row):
        return False
    return all(
        row[i] < row[i + 1] if going[i] > going[i + 1] else row[i] <= row[i + 1]
        for i in range(len(row) - 1)
    )


def downsets_by_trying(order):
    """All downsets, sorted by how many things they have, out of all rising tuples of things."""
    pairs = pairs_from(order)
    tried = [things for size in range(len(order) + 1) for things in itertools.combinations(range(len(order)), size)]
    return [things for things in tried if all(a in things for a, b in pairs if b in things)]


def is_calm_by_words(order, things):
    return not any(a > b and a in things and b in things for a, b in pairs_from(order))


def loose_by_words(order):
    pairs = pairs_from(order)
    both = itertools.combinations(range(len(order)), 2)
    return tuple((a, b) for a, b in both if (a, b) not in pairs and (b, a) not in pairs)


def put_by_words(order, a, b):
    return rows_from(len(order), closure(len(order), pairs_from(order) | {(a, b)}))


def names_turned_by_words(order):
    last = len(order) - 1
    return rows_from(len(order), {(last - a, last - b) for a, b in pairs_from(order)})


def upside_down_by_words(order):
    return rows_from(len(order), {(b, a) for a, b in pairs_from(order)})


def chosen_by_words(x, m):
    product = math.prod(x - step for step in range(m))
    whole, rest = divmod(product, math.factorial(m))
    assert rest == 0
    return whole
