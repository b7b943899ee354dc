import itertools
import random
import unittest

from risecount.orders import bare_ties, ties_of
from risecount.ordertext import order_text, read_order
from tests.helper import (
    SMALL_ORDERS, chain_order, check, closure, greater_orders, loose_order, refused, rows_from, told,
)

ORDERS = SMALL_ORDERS + greater_orders(21)
NOT_THE_FORM = (
    "", " ", "  ", "3 ", " 3", "3  0<1", "3 0<1 ", " 3 0<1", "3 0<1  1<2", "30<1", "3 0<11<2", "3 0<1,1<2",
    "10", "03", "00", "-1", "+3", "3.", "x", "<", "a 0<1", "3 0>1", "3 0=1", "3 0<=1", "3 0<<1", "3 0 < 1",
    "3 0< 1", "3 0 <1", "3 <1", "3 0<", "3 <", "3 01", "3 0", "3 0<1<2", "3 00<1", "3 0<01", "3 10<1", "3 0<10",
    "3 a<1", "3 0<b", "3 -1<0", "3 0<-1", "3 0<1 x", "3 x 0<1", "0<1", "0<1 3", "3,0<1", "3;0<1", "3_0<1",
    "3 0<1 1<2 2", "3 0<1 4", "3 (0<1)", "\"3\"", "~", "!", "3~0<1", "3 0~1", "3 0<1~", "3 /<1", "3 0<:",
    "three", "3 0<1.", "3 _<1",
)


class OrderTextTest(unittest.TestCase):
    def test_document_examples(self):
        check(self, "3 0<1 0<2", order_text, ((), (0,), (0,)))
        check(self, "0", order_text, ())
        check(self, "2 1<0", order_text, ((1,), ()))

    def test_only_bare_ties_are_written(self):
        check(self, "3 0<1 1<2", order_text, ((), (0,), (0, 1)))
        check(self, "9", order_text, loose_order(9))
        check(self, "9 1<0 2<1 3<2 4<3 5<4 6<5 7<6 8<7", order_text, chain_order((8, 7, 6, 5, 4, 3, 2, 1, 0)))

    def test_every_order_by_its_bare_ties(self):
        for order in ORDERS:
            wanted = str(len(order)) + "".join(" %d<%d" % tie for tie in bare_ties(order))
            check(self, wanted, order_text, order)

    def test_what_is_written_is_read_again(self):
        for order in ORDERS:
            check(self, order, read_order, told(self, order_text, order))


class ReadOrderTest(unittest.TestCase):
    def test_document_examples(self):
        check(self, ((), (0,), (0,)), read_order, "3 0<1 0<2")
        check(self, (), read_order, "0")
        check(self, ((1,), ()), read_order, "2 1<0")

    def test_no_ties(self):
        for n in range(10):
            check(self, loose_order(n), read_order, str(n))

    def test_ties_bare_or_not_in_any_order_some_more_than_once(self):
        chance = random.Random(22)
        for order in ORDERS:
            ties = list(ties_of(order)) + [tie for tie in bare_ties(order) if chance.random() < 0.5]
            chance.shuffle(ties)
            check(self, order, read_order, str(len(order)) + "".join(" %d<%d" % tie for tie in ties))

    def test_texts_of_up_to_a_thousand_signs(self):
        ties = " 0<1 8<3 1<8 0<3"
        text = "9" + (ties * 99)[:996]
        self.assertEqual(len(text), 997)
        wanted = rows_from(9, closure(9, {(0, 1), (8, 3), (1, 8), (0, 3)}))
        check(self, wanted, read_order, text)
        for tail in (" ", " 0", " 0<", "   "):
            refused(self, "NoOrder", read_order, text + tail)
        refused(self, "Looped", read_order, text[:-4] + " 3<0")
        refused(self, "NoThing", read_order, "4" + text[1:])

    def test_texts_that_have_not_the_form(self):
        for text in NOT_THE_FORM:
            refused(self, "NoOrder", read_order, text)
        refused(self, "NoOrder", read_order, " " * 1000)
        refused(self, "NoOrder", read_order, "1" * 1000)

    def test_signs_left_out_or_put_in(self):
        text = "4 0<1 3<2"
        for place in range(len(text)):
            if text[place] != "4":
                refused(self, "NoOrder", read_order, text[:place] + text[place + 1:])
        for place in range(len(text) + 1):
            for sign in " 0<a~":
                refused(self, "NoOrder", read_order, text[:place] + sign + text[place:])

    def test_every_sign_at_every_place(self):
        signs = [sign for sign in map(chr, range(32, 127)) if sign != "%"]
        for place, held in enumerate("9 5<7 2<4"):
            for sign in signs:
                text = "9 5<7 2<4"[:place] + sign + "9 5<7 2<4"[place + 1:]
                same_form = sign.isdigit() if held.isdigit() else sign == held
                if not same_form:
                    refused(self, "NoOrder", read_order, text)

    def test_every_short_text_of_few_signs(self):
        for size in range(6):
            for signs in itertools.product("01< ", repeat=size):
                text = "".join(signs)
                if text in ("0", "1"):
                    check(self, loose_order(int(text)), read_order, text)
                elif text == "1 0<0":
                    refused(self, "Looped", read_order, text)
                elif size == 5 and text[1] == " " and text[3] == "<" and (text[0] + text[2] + text[4]).isdigit():
                    refused(self, "NoThing", read_order, text)
                else:
                    refused(self, "NoOrder", read_order, text)

    def test_the_form_goes_ahead_of_no_thing_and_looped(self):
        for text in ("2 0<1 1<0 ", "2 0<5 ", "1 0<0  0<0", "1 9<9 x", "2 0<1 1<0 0<", "0 0<1 0<10", "2 5<5 3"):
            refused(self, "NoOrder", read_order, text)

    def test_no_thing(self):
        for text in ("0 0<0", "0 0<1", "1 0<1", "1 1<0", "3 0<1 3<2", "8 8<0", "8 0<9", "2 2<2"):
            refused(self, "NoThing", read_order, text)

    def test_no_thing_goes_ahead_of_looped(self):
        for text in ("2 0<0 1<2", "2 0<1 1<0 5<0", "2 7<0 0<1 1<0", "1 0<0 1<1"):
            refused(self, "NoThing", read_order, text)

    def test_looped(self):
        for text in ("1 0<0", "9 8<8", "2 0<1 1<0", "3 0<1 1<2 2<0", "9 0<1 3<4 4<5 5<3"):
            refused(self, "Looped", read_order, text)

    def test_same_answer_behind_a_refusal(self):
        before = read_order("3 2<0 0<1")
        for text in ("3 2<0 0<1 ", "3 2<3", "3 2<0 0<2"):
            with self.assertRaises(ValueError):
                read_order(text)
        check(self, before, read_order, "3 2<0 0<1")


if __name__ == "__main__":
    unittest.main()
