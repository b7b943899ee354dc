"""Orders as texts: the number of things, then ties written as a<b, one blank between two neighbours."""

from risecount.errors import NoOrder
from risecount.orders import bare_ties, order_of

FIGURES = "0123456789"


def order_text(order):
    words = [str(len(order))]
    words.extend([f"{a}<{b}" for a, b in bare_ties(order)])
    return " ".join(words)


def read_order(text):
    # Two blanks side by side, or one at an end, leave an empty word, which has neither form.
    words = text.split(" ")
    tie_words = words[1:]
    if not is_figure(words[0]) or not all([is_tie_word(word) for word in tie_words]):
        raise NoOrder("a text that has not the form of an order")
    ties = tuple([(int(word[0]), int(word[2])) for word in tie_words])
    return order_of(int(words[0]), ties)


def is_figure(text):
    return len(text) == 1 and text in FIGURES


def is_tie_word(word):
    return len(word) == 3 and is_figure(word[0]) and word[1] == "<" and is_figure(word[2])
