"""An order with names turned, by which plain and strict ties are exchanged, and an order upside down."""


def names_turned(order):
    # From the last row to the first one, so that each row comes to stand at its thing's new name.
    return tuple([names_in_row_turned(row, len(order)) for row in reversed(order)])


def names_in_row_turned(row, n):
    return tuple([n - 1 - thing for thing in reversed(row)])


def upside_down(order):
    return tuple([things_above(order, thing) for thing in range(len(order))])


def things_above(order, thing):
    return tuple([upper for upper, row in enumerate(order) if thing in row])
