"""From a filling to its going and its row, and back."""


def going_of(filling):
    return tuple(sorted(range(len(filling)), key=lambda place: (filling[place], place)))


def row_of(filling):
    return tuple(sorted(filling))


def filling_of(going, row):
    filling = [0] * len(going)
    for thing, number in zip(going, row):
        filling[thing] = number
    return tuple(filling)
