"""The lines that a desk is asked by, read into their parts."""

from risecount.errors import NoLine
from risecount.ordertext import is_figure

LETTERS = "abcdefghijklmnopqrstuvwxyz"
MOST_LETTERS = 8
MOST_FIGURES_OF_K = 60
MOST_FIGURES = 600

# What stands behind the first word: "new" is a name to keep an order under, "kept" one that is asked to
# stand for an order; ".." at the end stands for any number of numbers more. The line that begins with
# "order" is not among these, since its text is not parted into words.
FORMS = {
    "shape": ("new", "number", ".."),
    "part": ("new", "kept", "number", ".."),
    "put": ("new", "kept", "number", "number"),
    "turn": ("new", "kept"),
    "flip": ("new", "kept"),
    "beside": ("new", "kept", "kept"),
    "plain": ("new", "kept", "kept"),
    "strict": ("new", "kept", "kept"),
    "drop": ("kept",),
    "show": ("kept",),
    "names": (),
    "count": ("kept", "k"),
    "goings": ("kept",),
    "shares": ("kept",),
    "steps": ("kept",),
    "poly": ("kept",),
    "least": ("kept",),
    "going": ("kept", "number"),
    "nth": ("kept", "k", "number"),
    "rank": ("kept", "k", ".."),
    "alike": ("kept", "kept"),
}


class Line:
    """A line's first word, the name to keep under or None, the names asked, the numbers, the text."""

    def __init__(self, verb, target, sources, numbers, text):
        self.verb = verb
        self.target = target
        self.sources = sources
        self.numbers = numbers
        self.text = text


def read_line(line):
    words = line.split(" ")
    if words[0] == "order":
        return read_order_line(line)
    if words[0] not in FORMS:
        raise NoLine("no line begins so")
    form = form_for(FORMS[words[0]], len(words) - 1)
    if len(form) != len(words) - 1:
        raise NoLine("a word too few or too many")
    return line_of(words[0], list(zip(form, words[1:])))


def read_order_line(line):
    parts = line.split(" ", 2)
    if len(parts) < 3 or not is_name(parts[1]):
        raise NoLine("no name with a blank behind it")
    return Line("order", parts[1], (), (), parts[2])


def form_for(form, many):
    """The form for so many words: as many numbers at its end as are left over, where it allows for them."""
    if ".." not in form:
        return form
    fixed = form[:-1]
    return fixed + ("number",) * (many - len(fixed))


def line_of(verb, places):
    if not all([is_of_kind(kind, word) for kind, word in places]):
        raise NoLine("a word that has not the form of its place")
    targets = [word for kind, word in places if kind == "new"]
    sources = [word for kind, word in places if kind == "kept"]
    numbers = [int(word) for kind, word in places if kind in ("k", "number")]
    return Line(verb, targets[0] if targets else None, tuple(sources), tuple(numbers), "")


def is_of_kind(kind, word):
    if kind == "k":
        return is_number(word, MOST_FIGURES_OF_K)
    if kind == "number":
        return is_number(word, MOST_FIGURES)
    return is_name(word)


def is_name(word):
    return 1 <= len(word) <= MOST_LETTERS and all([sign in LETTERS for sign in word])


def is_number(word, most):
    if word == "0":
        return True
    figures = word[1:] if word.startswith("-") else word
    if not 1 <= len(figures) <= most or figures[0] == "0":
        return False
    return all([is_figure(sign) for sign in figures])
