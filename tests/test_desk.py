import random
import unittest

from risecount.alike import told_apart
from risecount.counts import count_at, polynomial, shares_by_steps
from risecount.desk import Desk
from risecount.goings import going_at, goings_many, shares_by_descents
from risecount.least import least_k
from risecount.numbered import filling_at, filling_number
from risecount.orders import part_of, put_under
from risecount.ordertext import order_text, read_order
from risecount.shapes import shape_order, shapes_of
from risecount.sums import above_plain, above_strict, side_by_side
from risecount.turned import names_turned, upside_down
from tests.helper import (
    FAR_NUMBERS, HUGE, K_60, SMALL_ORDERS, chain_order, greater_orders, loose_order, order_by_chance, refused,
)

ORDERS = SMALL_ORDERS[::6] + greater_orders(201) + (loose_order(9), chain_order((3, 8, 1, 0, 7, 2, 6, 5, 4)))
NINE_LOOSE = order_text(loose_order(9))
LONG_K = "9" * 60
LONG = "9" * 600


def row(numbers):
    return " ".join(str(number) for number in numbers) or "-"


def desk_with(**texts):
    desk = Desk()
    for name, text in texts.items():
        desk.ask(f"order {name} {text}")
    return desk


class DeskCase(unittest.TestCase):
    def says(self, desk, wanted, line):
        answer = desk.ask(line)
        self.assertIs(type(answer), str)
        self.assertEqual(answer, wanted, line)

    def shown(self, desk):
        """All that the desk keeps, as it tells it."""
        names = desk.ask("names")
        return {} if names == "-" else {name: desk.ask(f"show {name}") for name in names.split(" ")}

    def refuses(self, desk, name, line):
        """Seen is the refusal, and that nothing is changed by it."""
        before = self.shown(desk)
        refused(self, name, desk.ask, line)
        self.assertEqual(self.shown(desk), before, line)


class MakingTest(DeskCase):
    def made(self, desk, order, line):
        """What is made is written, and kept under the name in the line."""
        self.says(desk, order_text(order), line)
        self.says(desk, order_text(order), "show " + line.split(" ")[1])

    def test_order(self):
        desk = Desk()
        self.says(desk, "3 0<1 0<2", "order a 3 0<1 0<2")
        self.says(desk, "3 0<1 1<2", "order a 3 1<2 0<2 0<1 1<2")
        self.says(desk, "0", "order none 0")
        self.says(desk, "2 1<0", "order abcdefgh 2 1<0")
        self.says(desk, "2", "order order 2")
        self.says(desk, "a abcdefgh none order", "names")
        for order in ORDERS:
            self.made(desk, order, f"order x {order_text(order)}")

    def test_text_is_read_as_it_stands(self):
        desk = desk_with(a="1")
        for text in (
            "", " ", "  ", " 2", "2 ", "2  0<1", "2 0<1 ", "10", "02", "2 0<1 x", "a", "2 0>1", "-1", "20<1", "2 0 <1",
        ):
            self.refuses(desk, "NoOrder", f"order a {text}")
            self.refuses(desk, "NoOrder", f"order b {text}")
        for text in ("0 0<0", "2 0<2", "2 0<0 0<2", "3 3<0"):
            self.refuses(desk, "NoThing", f"order a {text}")
        for text in ("1 0<0", "2 0<1 1<0", "4 0<1 1<2 2<0"):
            self.refuses(desk, "Looped", f"order a {text}")
        self.refuses(desk, "NoOrder", "order a 2 0<9 x")
        self.says(desk, "1", "show a")

    def test_long_texts(self):
        desk = Desk()
        ties = " 0<1 1<2 0<2 7<3" * 62
        self.says(desk, "8 0<1 1<2 7<3", "order a 8" + ties)
        self.refuses(desk, "NoOrder", "order a 8" + ties + " ")
        self.refuses(desk, "NoOrder", "order a " + "x" * 1000)
        self.refuses(desk, "NoOrder", "order a " + " " * 1000)
        self.refuses(desk, "NoOrder", "order a " + "1" * 1000)

    def test_shape(self):
        desk = Desk()
        self.says(desk, "3 1<0 1<2", "shape a 2 1")
        self.says(desk, "1", "shape a 1")
        for m in range(1, 10):
            for shape in shapes_of(m):
                self.made(desk, shape_order(shape), f"shape b {row(shape)}")

    def test_no_shape(self):
        desk = desk_with(a="2 0<1")
        for rows in ((0,), (-1,), (1, 2), (10,), (5, 5), (2, 0), (1,) * 10, (1,) * 298, (9, 1), FAR_NUMBERS, (HUGE,)):
            self.refuses(desk, "NoShape", f"shape a {row(rows)}")
            self.refuses(desk, "NoShape", f"shape b {row(rows)}")

    def test_part(self):
        chance = random.Random(202)
        for order in ORDERS:
            desk = desk_with(a=order_text(order))
            for size in range(1, len(order) + 1):
                things = tuple(sorted(chance.sample(range(len(order)), size)))
                self.made(desk, part_of(order, things), f"part b a {row(things)}")
        desk = desk_with(a="4 0<3 3<1")
        self.says(desk, "3 0<2 2<1", "part b a 0 1 3")
        self.says(desk, "2 0<1", "part b a 0 1")
        self.says(desk, "1", "part b a 3")

    def test_part_refused(self):
        desk = desk_with(a="3 0<1", z="0")
        for things in ("3", "-1", "1 0", "1 1", "0 1 2 3", "0 " * 297 + "0", LONG, "-" + LONG, "0 " + LONG):
            self.refuses(desk, "NoThing", f"part a a {things}")
            self.refuses(desk, "NoThing", f"part b a {things}")
        self.refuses(desk, "NoThing", "part b z 0")

    def test_put(self):
        for order in ORDERS:
            desk = desk_with(a=order_text(order))
            for a in range(len(order)):
                for b in range(len(order)):
                    if a == b or b in order[a]:
                        self.refuses(desk, "Looped", f"put b a {a} {b}")
                    else:
                        self.made(desk, put_under(order, a, b), f"put c a {a} {b}")
        self.says(desk_with(a="3 0<1"), "3 0<1 1<2", "put a a 1 2")

    def test_put_refused(self):
        desk = desk_with(a="3 0<1")
        for things in ("0 3", "3 0", "-1 0", "0 -1", "3 3", LONG + " 0", "0 -" + LONG, LONG + " " + LONG):
            self.refuses(desk, "NoThing", f"put a a {things}")
        for things in ("1 0", "0 0", "2 2"):
            self.refuses(desk, "Looped", f"put a a {things}")

    def test_turn_and_flip(self):
        for order in ORDERS:
            desk = desk_with(a=order_text(order))
            self.made(desk, names_turned(order), "turn b a")
            self.made(desk, upside_down(order), "flip c a")
        desk = desk_with(a="3 0<1 0<2")
        self.says(desk, "3 2<0 2<1", "turn b a")
        self.says(desk, "3 1<0 2<0", "flip b a")

    def test_beside_plain_and_strict(self):
        desk = desk_with(a="2 0<1", b="1")
        self.says(desk, "3 0<1", "beside c a b")
        self.says(desk, "3 1<2", "beside c b a")
        self.says(desk, "3 0<1 1<2", "plain c a b")
        self.says(desk, "3 0<1 1<2", "plain c b a")
        self.says(desk, "3 1<2 2<0", "strict c a b")
        self.says(desk, "3 0<1 2<0", "strict c b a")
        chance = random.Random(203)
        for turn in range(60):
            p = chance.randrange(10)
            one, other = order_by_chance(p, 0.4, chance), order_by_chance(chance.randrange(10 - p), 0.4, chance)
            desk = desk_with(a=order_text(one), b=order_text(other))
            self.made(desk, side_by_side(one, other), "beside c a b")
            self.made(desk, above_plain(one, other), "plain d a b")
            self.made(desk, above_strict(one, other), "strict e a b")

    def test_too_great(self):
        desk = desk_with(a="5 0<1", b="5", c="9", d="1", z="0")
        for verb in ("beside", "plain", "strict"):
            for both in ("a b", "b a", "c d", "d c", "c c"):
                self.refuses(desk, "TooGreat", f"{verb} a {both}")
                self.refuses(desk, "TooGreat", f"{verb} x {both}")
            self.says(desk, "9", f"{verb} x c z")

    def test_a_name_made_anew_out_of_itself(self):
        desk = desk_with(a="2 0<1")
        self.says(desk, "4 0<1 2<3", "beside a a a")
        self.says(desk, "4 1<0 3<2", "turn a a")
        self.says(desk, "4 0<1 2<3", "flip a a")
        self.says(desk, "4 0<1 1<2 2<3", "put a a 1 2")
        self.says(desk, "2 0<1", "part a a 0 3")
        self.says(desk, "4 0<1 1<2 2<3", "plain a a a")
        self.says(desk, "8 0<1 1<2 2<3 3<4 4<5 5<6 6<7", "plain a a a")
        self.refuses(desk, "TooGreat", "strict a a a")
        self.says(desk, "8 0<1 1<2 2<3 3<4 4<5 5<6 6<7", "show a")
        self.says(desk, "a", "names")

    def test_what_was_made_of_a_name_stays_when_the_name_is_made_anew(self):
        desk = desk_with(a="2 0<1")
        desk.ask("turn b a")
        desk.ask("order a 3")
        self.says(desk, "2 1<0", "show b")
        desk.ask("drop a")
        self.says(desk, "2 1<0", "show b")


class KeepingTest(DeskCase):
    def test_names(self):
        desk = Desk()
        self.says(desk, "-", "names")
        self.says(desk, "-", "names")
        for name in ("b", "ab", "z", "a", "aa", "zzzzzzzz", "names", "order"):
            desk.ask(f"order {name} 1")
        self.says(desk, "a aa ab b names order z zzzzzzzz", "names")
        desk.ask("order b 2")
        self.says(desk, "a aa ab b names order z zzzzzzzz", "names")

    def test_many_names(self):
        desk = Desk()
        names = [first + second + third for first in "qwe" for second in "zyxabc" for third in "mnbvcxk"]
        for number, name in enumerate(names):
            desk.ask(f"order {name} {number % 10}")
        self.says(desk, " ".join(sorted(names)), "names")
        for number, name in enumerate(names):
            self.says(desk, str(number % 10), f"show {name}")

    def test_drop(self):
        desk = desk_with(a="1", b="2 0<1")
        self.says(desk, "gone", "drop a")
        self.says(desk, "b", "names")
        self.refuses(desk, "NoName", "drop a")
        self.refuses(desk, "NoName", "show a")
        self.says(desk, "2 0<1", "show b")
        self.says(desk, "3", "order a 3")
        self.says(desk, "3", "show a")
        self.says(desk, "gone", "drop b")
        self.says(desk, "gone", "drop a")
        self.says(desk, "-", "names")

    def test_two_desks_beside_one_another(self):
        one, other = Desk(), Desk()
        one.ask("order a 2 0<1")
        self.refuses(other, "NoName", "show a")
        self.says(other, "-", "names")
        other.ask("order a 3")
        other.ask("order b 0")
        self.says(one, "2 0<1", "show a")
        self.refuses(one, "NoName", "show b")
        self.says(other, "gone", "drop a")
        self.says(one, "2 0<1", "show a")
        self.says(one, "a", "names")
        self.says(other, "b", "names")
        self.says(Desk(), "-", "names")


class TellingTest(DeskCase):
    def test_numbers_and_rows(self):
        for order in ORDERS:
            desk = desk_with(a=order_text(order))
            self.says(desk, order_text(order), "show a")
            self.says(desk, str(goings_many(order)), "goings a")
            self.says(desk, row(shares_by_descents(order)), "shares a")
            self.says(desk, row(shares_by_steps(order)), "steps a")
            self.says(desk, row(polynomial(order)), "poly a")
            self.says(desk, str(least_k(order)[0]), "least a")

    def test_word_for_word(self):
        desk = desk_with(a="3 0<1 0<2", z="0", s="2 1<0")
        for wanted, line in (
            ("3 0<1 0<2", "show a"), ("0", "show z"), ("2 1<0", "show s"),
            ("14", "count a 3"), ("-5", "count a -3"), ("0", "count a 0"), ("1", "count z 0"), ("1", "count z -7"),
            ("2", "goings a"), ("1", "goings z"), ("1 1 0", "shares a"), ("1", "shares z"), ("0 1", "shares s"),
            ("0 1 3 2", "steps a"), ("1", "steps z"), ("0 1 3 2", "poly a"), ("1", "poly z"), ("0 -1 1", "poly s"),
            ("1", "least a"), ("0", "least z"), ("2", "least s"),
            ("0 1 2", "going a 0"), ("0 2 1", "going a 1"), ("-", "going z 0"), ("1 0", "going s 0"),
            ("1 2 1", "nth a 2 4"), ("-", "nth z 0 0"), ("-", "nth z 5 0"), ("2 1", "nth s 2 0"),
            ("4", "rank a 2 1 2 1"), ("0", "rank z 0"), ("0", "rank z 60"), ("0", "rank s 2 2 1"),
            ("alike 0 1 2", "alike a a"), ("alike -", "alike z z"), ("apart 1", "alike a s"), ("apart 0", "alike s z"),
        ):
            self.says(desk, wanted, line)
            self.says(desk, wanted, line)
        self.says(desk, "a s z", "names")

    def test_alike(self):
        desk = desk_with(a="3 1<0 0<2", b="3 2<0 0<1", c="3 0<1 0<2", d="3 0<2 1<2", e="3 0<1")
        self.says(desk, "alike 0 2 1", "alike a b")
        self.says(desk, "same", "alike c d")
        self.says(desk, "same", "alike d c")
        self.says(desk, "apart 2", "alike c e")
        self.says(desk, "apart 1", "alike a c")
        chance = random.Random(204)
        for turn in range(80):
            one, other = chance.choice(ORDERS), chance.choice(ORDERS)
            desk = desk_with(a=order_text(one), b=order_text(other))
            answer = told_apart(one, other)
            wanted = {"alike": f"alike {row(answer[1])}" if answer[0] == "alike" else "", "same": "same"}
            self.says(desk, wanted.get(answer[0], f"apart {answer[-1]}"), "alike a b")

    def test_count(self):
        for order in ORDERS:
            desk = desk_with(a=order_text(order))
            for k in (0, 1, -1, 3, -12, K_60, -K_60, 10 ** 59):
                self.says(desk, str(count_at(order, k)), f"count a {k}")

    def test_going(self):
        chance = random.Random(205)
        for order in ORDERS:
            desk = desk_with(a=order_text(order))
            many = goings_many(order)
            for number in (0, many - 1, chance.randrange(many)):
                self.says(desk, row(going_at(order, number)), f"going a {number}")
            for number in (many, -1, many + 7) + FAR_NUMBERS:
                self.refuses(desk, "NoNumber", f"going a {number}")

    def test_nth_and_rank(self):
        chance = random.Random(206)
        for order in ORDERS:
            desk = desk_with(a=order_text(order))
            for k in (0, 2, 10, K_60):
                many = count_at(order, k)
                for number in sorted({0, many - 1, chance.randrange(many)} if many else ()):
                    filling = filling_at(order, k, number)
                    self.says(desk, row(filling), f"nth a {k} {number}")
                    numbers = "".join(f" {part}" for part in filling)
                    self.says(desk, str(number), f"rank a {k}{numbers}")
                    self.assertEqual(filling_number(order, k, filling), number)
                for number in (many, -1) + FAR_NUMBERS:
                    self.refuses(desk, "NoNumber", f"nth a {k} {number}")

    def test_nth_and_rank_refused(self):
        desk = desk_with(a="2 0<1", z="0")
        for k in ("-1", "-" + LONG_K):
            self.refuses(desk, "NoNumber", f"nth a {k} 0")
            self.refuses(desk, "NoNumber", f"rank a {k} 1 1")
            self.refuses(desk, "NoNumber", f"rank a {k}")
            self.refuses(desk, "NoNumber", f"nth z {k} 0")
            self.refuses(desk, "NoNumber", f"rank z {k}")
        for numbers in ("", " 1", " 2 1", " 0 1", " 1 4", " 1 2 3", " -1 1", " 1" * 297, f" 1 {LONG}", f" -{LONG} 1"):
            self.refuses(desk, "NoFilling", f"rank a 3{numbers}")
        self.refuses(desk, "NoFilling", "rank z 3 1")
        self.refuses(desk, "NoNumber", "nth z 3 1")

    def test_long_numbers(self):
        desk = Desk()
        desk.ask(f"order a {NINE_LOOSE}")
        self.says(desk, str(K_60 ** 9), f"count a {LONG_K}")
        self.says(desk, str(-(K_60 ** 9)), f"count a -{LONG_K}")
        self.says(desk, row(range(K_60, K_60 - 9, -1)), f"nth a {LONG_K} {K_60 ** 9 - 1}")
        self.says(desk, str(K_60 ** 9 - 1), f"rank a {LONG_K} {row(range(K_60, K_60 - 9, -1))}")
        self.says(desk, "1 " * 8 + "1", f"nth a {LONG_K} 0")
        self.refuses(desk, "NoNumber", f"nth a {LONG_K} {LONG}")
        self.refuses(desk, "NoNumber", f"nth a {LONG_K} -{LONG}")
        self.refuses(desk, "NoFilling", f"rank a {LONG_K} {LONG}")

    def test_lines_of_many_words_and_signs(self):
        desk = desk_with(a="3", z="0")
        for wanted, line in (
            ("NoShape", "shape b" + " 1" * 298), ("NoThing", "part b a" + " 0" * 297),
            ("NoFilling", "rank a 2" + " 1" * 297), ("NoShape", f"shape b {LONG} {LONG} {LONG} {LONG} {LONG}"),
            ("NoLine", "names" + " a" * 299), ("NoLine", "x" * 3100), ("NoLine", " " * 299),
            ("NoLine", "count a " + "1" * 3092), ("NoLine", "show " + "a" * 3095),
            ("NoLine", "rank a 2" + " 1" * 296 + " x"), ("NoLine", "order " + "a" * 1500 + " 1"),
            ("NoLine", "nth a 1 " + "0" * 3000),
        ):
            self.assertLessEqual(len(line), 3100)
            self.refuses(desk, wanted, line)


class NoLineTest(DeskCase):
    ENDS = {
        "shape": "b 2 1", "part": "b a 0 1", "put": "b a 0 1", "turn": "b a", "flip": "b a", "beside": "b a a",
        "plain": "b a a", "strict": "b a a", "drop": "c", "show": "a", "count": "a 3", "goings": "a", "shares": "a",
        "steps": "a", "poly": "a", "least": "a", "going": "a 0", "nth": "a 3 0", "rank": "a 3 1 1", "alike": "a a",
    }
    # By how many words a line may be too short: of a shape, a part and a rank some words may be left out.
    FEWEST = {"shape": 2, "part": 3, "rank": 2}
    WORDS = ("names", "order b 2 0<1") + tuple(f"{verb} {end}" for verb, end in ENDS.items())
    BAD_NAMES = ("", "A", "aB", "abcdefghi", "a1", "a-", "1", "-", "a.b", "a_b", "Z", "a<", "`", "{", "a" * 300)
    BAD_NUMBERS = (
        "", "-", "+1", "01", "00", "-0", "-01", "--1", "1-", "1.0", "1e3", "a", "0x1", "1_000", "+0", "1,0", "0-", "-a",
    )

    def desk(self):
        return desk_with(a="2 0<1", c="1")

    def no_line(self, line):
        self.refuses(self.desk(), "NoLine", line)

    def test_the_lines_themselves_are_answered(self):
        for line in self.WORDS:
            self.assertIs(type(self.desk().ask(line)), str, line)

    def test_a_word_too_few(self):
        for verb, end in self.ENDS.items():
            words = end.split(" ")
            for many in range(self.FEWEST.get(verb, len(words))):
                self.no_line(" ".join([verb] + words[:many]))
        for line in ("order", "order b"):
            self.no_line(line)

    def test_a_word_too_many(self):
        for verb, end in self.ENDS.items():
            for more in ("a", "0", "x", "names"):
                if verb not in self.FEWEST or not more.isdigit():
                    self.no_line(f"{verb} {end} {more}")
        for line in ("names a", "names 0", "names names"):
            self.no_line(line)

    def test_blanks(self):
        for line in self.WORDS:
            self.no_line(" " + line)
            self.no_line("  " + line)
            if not line.startswith("order"):
                self.no_line(line + " ")
                self.no_line(line + "  ")
                for place, sign in enumerate(line):
                    if sign == " ":
                        self.no_line(line[:place] + " " + line[place:])
        self.no_line("order  b 2 0<1")
        self.no_line("")
        self.no_line(" ")
        self.no_line("  ")

    def test_the_blank_behind_the_name_of_an_order(self):
        self.no_line("order b")
        self.no_line("order ")
        self.no_line("order  ")
        self.no_line("order  2 0<1")
        self.no_line("order 2 0<1")
        self.refuses(self.desk(), "NoOrder", "order b ")
        self.refuses(self.desk(), "NoOrder", "order a ")
        self.refuses(self.desk(), "NoOrder", "order b  2 0<1")
        self.refuses(self.desk(), "NoOrder", "order b 2 0<1 ")

    def test_first_words(self):
        for line in self.WORDS:
            verb, blank, end = line.partition(" ")
            last = verb[:-1] + verb[-1].upper()
            for other in (verb.upper(), verb.capitalize(), last, verb + "s", verb[:-1], "x" + verb, verb + "-"):
                if other not in self.ENDS and other not in ("names", "order"):
                    self.no_line(other + blank + end)
        for line in ("a", "make a 1", "quit", "0", "-", "new a", "kept a", "number", ".. a", "k a"):
            self.no_line(line)

    def places(self, *kinds):
        """Each of the lines with one place open, where a word of one of these kinds stands."""
        for verb, end in self.ENDS.items():
            words = end.split(" ")
            for place, word in enumerate(words):
                number = word.lstrip("-").isdigit()
                kind = "name" if not number else "k" if verb in ("count", "nth", "rank") and place == 1 else "number"
                if kind in kinds:
                    yield lambda other, words=words, place=place, verb=verb: " ".join(
                        [verb] + words[:place] + [other] + words[place + 1:])

    def test_names(self):
        for line in self.places("name"):
            for name in self.BAD_NAMES:
                self.no_line(line(name))
        for name in self.BAD_NAMES:
            self.no_line(f"order {name} 1")

    def test_numbers(self):
        for line in self.places("k", "number"):
            for number in self.BAD_NUMBERS:
                self.no_line(line(number))
            for number in ("1" * 601, "-" + "1" * 601, "1" * 700, "0" * 601):
                self.no_line(line(number))

    def test_k_of_61_figures(self):
        for line in self.places("k"):
            for number in ("1" * 61, "-" + "1" * 61, "1" + "0" * 60, "9" * 600, "-" + "9" * 600):
                self.no_line(line(number))

    def test_k_of_60_figures_and_others_of_600_make_lines(self):
        for number in (LONG_K, "-" + LONG_K, "1" + "0" * 59):
            self.says(self.desk(), str(count_at(((), (0,)), int(number))), f"count a {number}")
        for number in (LONG, "-" + LONG, "1" + "0" * 599, "-1" + "0" * 599):
            desk = self.desk()
            self.refuses(desk, "NoNumber", f"going a {number}")
            self.refuses(desk, "NoNumber", f"nth a 3 {number}")
            self.refuses(desk, "NoFilling", f"rank a 3 1 {number}")
            self.refuses(desk, "NoShape", f"shape b {number}")
            self.refuses(desk, "NoThing", f"part b a {number}")
            self.refuses(desk, "NoThing", f"put b a {number} 1")
            self.refuses(desk, "NoThing", f"put b a 1 {number}")

    def test_names_of_one_to_eight_letters(self):
        desk = Desk()
        for name in ("a", "z", "az", "abcdefgh", "zzzzzzzz", "mnopqrst", "names", "order", "k", "new"):
            self.says(desk, "1", f"order {name} 1")
            self.says(desk, "2", f"beside {name} {name} {name}")


class FirstDueTest(DeskCase):
    def test_no_line_goes_ahead_of_no_name(self):
        desk = desk_with(a="2 0<1")
        for line in (
            "show x y", "count x", "count x 01", "nth x 1", "put b x 0", "part b x", "turn B x", "alike x", "alike x B",
            "beside b x", "rank x", "rank x 1 +1", f"count x {'1' * 61}", f"going x {'1' * 601}", "drop x ", " drop x",
        ):
            self.refuses(desk, "NoLine", line)

    def test_no_name_goes_ahead_of_all_others(self):
        desk = desk_with(a="2 0<1", g="9")
        for line in (
            "show x", "drop x", "count x 0", "goings x", "shares x", "steps x", "poly x", "least x", "going x -1",
            "nth x -1 -1", "rank x -1", "rank x 2 9 9", "alike x a", "alike a x", "alike x x", "part b x 5 1",
            "put b x 1 1",
            "turn b x", "flip b x", "beside b x g", "beside b g x", "plain b g x", "strict b x g", "strict x x a",
            "turn x x", "put x x 0 0",
        ):
            self.refuses(desk, "NoName", line)

    def test_a_name_that_is_to_be_made_need_not_stand_for_anything(self):
        desk = desk_with(a="2 0<1")
        for line in ("turn x a", "order y 1", "shape z 1", "part v a 0", "put u a 0 1", "plain w a a"):
            desk.ask(line)
        self.says(desk, "a u v w x y z", "names")

    def test_as_the_functions_refuse(self):
        desk = desk_with(a="3 0<1", g="9", t="7")
        for name, line in (
            ("NoOrder", "order a x"), ("NoThing", "order a 2 0<5 1<0 0<1"), ("Looped", "order a 2 1<0 0<1"),
            ("NoShape", "shape a 1 2"), ("NoThing", "part a a 2 1"), ("NoThing", "put a a 3 3"),
            ("Looped", "put a a 1 1"),
            ("TooGreat", "beside a a t"), ("TooGreat", "plain a t a"), ("TooGreat", "strict g g g"),
            ("NoNumber", "going a 3"), ("NoNumber", "nth a -1 0"), ("NoNumber", "rank a -1 1 1 1"),
            ("NoFilling", "rank a 1 2 2 2"),
        ):
            self.refuses(desk, name, line)
        self.assertEqual(self.shown(desk), {"a": "3 0<1", "g": "9", "t": "7"})

    def test_much_is_told_where_nothing_is_listed(self):
        desk = desk_with(g="9")
        self.says(desk, "362880", "goings g")
        self.says(desk, "8 7 6 5 4 3 2 1 0", "going g 362879")
        self.says(desk, "10 1 1 1 1 1 1 1 1", "nth g 10 " + desk.ask("rank g 10 10 1 1 1 1 1 1 1 1"))


class ManyLinesTest(DeskCase):
    """Many lines by chance, held against orders that the test keeps itself."""

    ONE = {"turn": names_turned, "flip": upside_down}
    TWO = {"beside": side_by_side, "plain": above_plain, "strict": above_strict}

    def a_line(self, kept, chance):
        """A line that is answered, and the name and the order it makes."""
        name, a, b = chance.choice("abcd"), chance.choice(sorted(kept)), chance.choice(sorted(kept))
        verb = chance.choice(("order", "turn", "flip", "beside", "plain", "strict", "part", "shape"))
        if verb in self.ONE:
            return f"{verb} {name} {a}", name, self.ONE[verb](kept[a])
        if verb in self.TWO and len(kept[a]) + len(kept[b]) < 10:
            return f"{verb} {name} {a} {b}", name, self.TWO[verb](kept[a], kept[b])
        if verb == "part" and kept[a]:
            things = tuple(sorted(chance.sample(range(len(kept[a])), chance.randint(1, len(kept[a])))))
            return f"part {name} {a} {row(things)}", name, part_of(kept[a], things)
        if verb == "shape":
            shape = chance.choice(shapes_of(chance.randint(1, 9)))
            return f"shape {name} {row(shape)}", name, shape_order(shape)
        order = order_by_chance(chance.randrange(7), chance.random(), chance)
        return f"order {name} {order_text(order)}", name, order

    def test_many_lines(self):
        chance = random.Random(207)
        desks = [(Desk(), {}), (Desk(), {})]
        for desk, kept in desks:
            desk.ask("order a 1")
            kept["a"] = ((),)
        for turn in range(600):
            desk, kept = chance.choice(desks)
            line, name, order = self.a_line(kept, chance)
            self.says(desk, order_text(order), line)
            kept[name] = order
            refused(self, "NoName", desk.ask, f"turn {name} x")
            self.assertEqual(self.shown(desk), {name: order_text(order) for name, order in kept.items()})
            if len(kept) > 1 and chance.random() < 0.2:
                gone = chance.choice(sorted(kept))
                self.says(desk, "gone", f"drop {gone}")
                kept.pop(gone)

    def test_what_is_written_is_read_again(self):
        desk = Desk()
        for order in ORDERS:
            text = order_text(order)
            self.says(desk, text, f"order a {text}")
            self.assertEqual(read_order(desk.ask("show a")), order)


if __name__ == "__main__":
    unittest.main()
