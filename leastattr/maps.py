"""Affine maps of attributes: lists of rows, of which the first keeps the 1 ahead of the attributes."""

from leastattr.errors import WrongKind
from leastattr.reduction import unit_row
from leastattr.spans import product_of
from leastattr.trees import context_map, kinds_of_context


def checked_loop(grammar, context):
    """The name of the kind of a loop; raises NoContext, and WrongKind if a context is none."""
    inner, outer = kinds_of_context(grammar, context)
    if inner != outer:
        raise WrongKind(outer)
    return outer


def checked_loops(grammar, one, other):
    """The name of the kind of two loops of one kind; raises NoContext and WrongKind."""
    kind = checked_loop(grammar, one)
    other_kind = checked_loop(grammar, other)
    if other_kind != kind:
        raise WrongKind(other_kind)
    return kind


def loop_map(grammar, context):
    """The map of what is a loop."""
    forms = context_map(grammar, context)
    return [unit_row(len(forms) + 1, 0)] + [list(form) for form in forms]


def applied(rows, point, width):
    """What a map makes of a point."""
    return [product_of(row, point, width) for row in rows]


def composed(outer, inner, width):
    """The map that makes of each point what one map makes of that which another one makes of it."""
    columns = [[row[place] for row in inner] for place in range(len(inner))]
    return [[product_of(row, column, width) for column in columns] for row in outer]


class Powers:
    """The map that is gone any number of times."""

    def __init__(self, rows, width):
        self.width = width
        self.doubled = [rows]

    def doubling(self, index):
        """The map that is gone 2 ** index times."""
        while len(self.doubled) <= index:
            last = self.doubled[-1]
            self.doubled.append(composed(last, last, self.width))
        return self.doubled[index]

    def moved(self, point, times):
        """What becomes of a point if the map is gone a number of times."""
        for index in range(times.bit_length()):
            if times >> index & 1:
                point = applied(self.doubling(index), point, self.width)
        return point
