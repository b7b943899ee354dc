"""What is made and what is told by the lines of a desk, once it is known which orders they speak of."""

from risecount.alike import told_apart
from risecount.counts import count_at, polynomial, shares_by_steps
from risecount.goings import going_at, goings_many, shares_by_descents
from risecount.least import least_k
from risecount.numbered import filling_at, filling_number
from risecount.orders import part_of, put_under
from risecount.ordertext import order_text, read_order
from risecount.shapes import shape_order
from risecount.sums import above_plain, above_strict, side_by_side
from risecount.turned import names_turned, upside_down


def made_by(line, orders):
    """The order that a line makes."""
    if line.verb == "order":
        return read_order(line.text)
    if line.verb == "shape":
        return shape_order(line.numbers)
    if len(orders) == 2:
        return put_together(line.verb, orders[0], orders[1])
    return made_of_one(line.verb, orders[0], line.numbers)


def made_of_one(verb, order, numbers):
    if verb == "part":
        return part_of(order, numbers)
    if verb == "put":
        return put_under(order, numbers[0], numbers[1])
    if verb == "turn":
        return names_turned(order)
    return upside_down(order)


def put_together(verb, one, other):
    if verb == "beside":
        return side_by_side(one, other)
    if verb == "plain":
        return above_plain(one, other)
    return above_strict(one, other)


def told_by(line, orders):
    """The answer to a line that makes nothing."""
    if line.verb == "alike":
        return text_of_compared(told_apart(orders[0], orders[1]))
    if line.verb == "show":
        return order_text(orders[0])
    if line.verb in ("count", "goings", "least", "rank"):
        return str(number_told(line.verb, orders[0], line.numbers))
    return row_text(row_told(line.verb, orders[0], line.numbers))


def number_told(verb, order, numbers):
    if verb == "count":
        return count_at(order, numbers[0])
    if verb == "goings":
        return goings_many(order)
    if verb == "least":
        return least_k(order)[0]
    return filling_number(order, numbers[0], numbers[1:])


def row_told(verb, order, numbers):
    if verb == "shares":
        return shares_by_descents(order)
    if verb == "steps":
        return shares_by_steps(order)
    if verb == "poly":
        return polynomial(order)
    if verb == "going":
        return going_at(order, numbers[0])
    return filling_at(order, numbers[0], numbers[1])


def row_text(row):
    return words_text([str(number) for number in row])


def words_text(words):
    return " ".join(words) if words else "-"


def text_of_compared(answer):
    word = answer[0]
    if word == "alike":
        return "alike " + row_text(answer[1])
    if word == "apart":
        return "apart " + str(answer[1])
    return word
