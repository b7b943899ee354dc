"""A desk that keeps orders under names and is asked by lines."""

from risecount.answers import made_by, told_by, words_text
from risecount.errors import NoName
from risecount.lines import read_line
from risecount.ordertext import order_text


class Desk:
    """Orders under names, one under each; what is refused changes nothing."""

    def __init__(self):
        self.kept = {}

    def ask(self, line):
        asked = read_line(line)
        orders = [self.order_under(name) for name in asked.sources]
        if asked.target is not None:
            return self.keep(asked.target, made_by(asked, orders))
        if asked.verb == "drop":
            return self.drop(asked.sources[0])
        if asked.verb == "names":
            return words_text(sorted(self.kept))
        return told_by(asked, orders)

    def order_under(self, name):
        if name not in self.kept:
            raise NoName("the name stands for nothing")
        return self.kept[name]

    def keep(self, name, order):
        self.kept[name] = order
        return order_text(order)

    def drop(self, name):
        self.kept.pop(name)
        return "gone"
