"""Shapes: rows of cells that begin at one edge, none longer than the one ahead; their orders, hooks and contents."""

from risecount.errors import NoNumber, NoShape
from risecount.orders import are_too_many
from risecount.products import goings_by_parts, product_of


def shapes_of(m):
    if m < 0 or are_too_many(m):
        raise NoNumber("no shapes are told of so many cells")
    return tuple(shapes_within(m, m))


def shapes_within(m, widest):
    """All shapes of m cells with no row wider than this, sorted."""
    if m == 0:
        return [()]
    shapes = []
    for width in range(1, min(m, widest) + 1):
        shapes.extend([(width,) + rest for rest in shapes_within(m - width, width)])
    return shapes


def is_shape(shape):
    falling = all([shape[row] <= shape[row - 1] for row in range(1, len(shape))])
    return falling and all([width >= 1 for width in shape]) and not are_too_many(sum(shape))


def cells_of(shape):
    """The cells as pairs of row and column, in the order of their numbers as things."""
    if not is_shape(shape):
        raise NoShape("not the rows of a shape")
    cells = []
    for row in range(len(shape) - 1, -1, -1):
        cells.extend([(row, column) for column in range(shape[row])])
    return cells


def shape_order(shape):
    cells = cells_of(shape)
    return tuple([things_under(cells, cell) for cell in cells])


def things_under(cells, cell):
    return tuple([thing for thing, other in enumerate(cells) if lies_under(other, cell)])


def lies_under(cell, other):
    return cell != other and cell[0] <= other[0] and cell[1] <= other[1]


def hooks(shape):
    return tuple([hook_of(shape, row, column) for row, column in cells_of(shape)])


def hook_of(shape, row, column):
    later = [width for width in shape[row + 1:] if width > column]
    return shape[row] - column + len(later)


def contents(shape):
    return tuple([column - row for row, column in cells_of(shape)])


def shape_goings(shape):
    return goings_by_parts(hooks(shape))


def shape_count(shape, k):
    return product_of([k + content for content in contents(shape)]) // product_of(hooks(shape))
