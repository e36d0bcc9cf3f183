"""Modules: all sums of multiples of some rows, modulo 2 ** width."""

from leastattr.checks import is_integer, is_row, is_width
from leastattr.errors import NoRows
from leastattr.reduction import echelon_rows, exponent_of, invariants, pivot_column, remainder, tails, unit_row
from leastattr.sums import reduced


def echelon(width, size, rows):
    """The one list of rows in steps that has the module of some rows."""
    check_frame(width, size)
    own = checked_rows("rows", rows, size, width)
    return as_tuples(echelon_rows(own, width))


def count(width, size, rows):
    """How many elements the module of some rows has."""
    check_frame(width, size)
    steps = echelon_rows(checked_rows("rows", rows, size, width), width)
    pivots = [row[pivot_column(row)] for row in steps]
    return 1 << sum([width - exponent_of(pivot) for pivot in pivots])


def is_in(width, size, rows, row):
    """Whether a row is an element of the module of some rows."""
    check_frame(width, size)
    own = checked_rows("rows", rows, size, width)
    left = remainder(checked_row("row", row, size, width), echelon_rows(own, width), width)
    return not any(left)


def coefficients(width, size, rows, row):
    """Numbers with which the sum of some rows is a row, a tuple; None if there are none."""
    check_frame(width, size)
    own = checked_rows("rows", rows, size, width)
    wish = checked_row("row", row, size, width)
    # Few rows are enough, and each one carries how often it was taken behind its own numbers.
    chosen = chosen_indexes(own, width)
    many = len(chosen)
    carrying = [own[index] + unit_row(many, at) for at, index in enumerate(chosen)]
    left = remainder(wish + [0] * many, echelon_rows(carrying, width), width)
    if any(left[:size]):
        return None
    found = [0] * len(own)
    for index, number in zip(chosen, left[size:]):
        found[index] = -number % (1 << width)
    return tuple(found)


def kernel(width, size, rows):
    """The echelon of all rows whose product with each of some rows is 0."""
    check_frame(width, size)
    steps = echelon_rows(checked_rows("rows", rows, size, width), width)
    # An element of this module is a row behind its products with all steps.
    carrying = [[row[place] for row in steps] + unit_row(size, place) for place in range(size)]
    return as_tuples(tails(carrying, len(steps), width))


def meet(width, size, one, other):
    """The echelon of what the modules of some rows and of others have in common."""
    check_frame(width, size)
    own_one = checked_rows("one", one, size, width)
    own_other = checked_rows("other", other, size, width)
    # Where the first halves come to 0, the second half is in one module and its negative in the other.
    halves = [row + row for row in own_one] + [row + [0] * size for row in own_other]
    return as_tuples(tails(halves, size, width))


def generators(width, size, rows):
    """The least number of rows that have the module of some rows."""
    check_frame(width, size)
    return len(invariants(checked_rows("rows", rows, size, width), width))


def picked(width, size, rows):
    """The ascending list of indexes of as few rows as possible that have the module of all."""
    check_frame(width, size)
    return chosen_indexes(checked_rows("rows", rows, size, width), width)


def smith(width, table):
    """The list of the exponents of the invariant factors of a table that are not 0."""
    check_width(width)
    own = checked_rows("table", table, first_size(table), width)
    return [exponent for _, exponent in invariants(own, width)]


def chosen_indexes(rows, width):
    """The ascending list of indexes of as few rows as possible that have the module of all."""
    return sorted([index for index, _ in invariants(rows, width)])


def first_size(table):
    """The size of the first row of a table; 0 for what has none, which is told as an error elsewhere."""
    if not isinstance(table, (list, tuple)) or len(table) == 0 or not isinstance(table[0], (list, tuple)):
        return 0
    return len(table[0])


def as_tuples(rows):
    """A list of rows as tuples."""
    return [tuple(row) for row in rows]


def check_width(width):
    """Raises NoRows for what is no width."""
    if not is_width(width):
        raise NoRows("width", -1)


def check_frame(width, size):
    """Raises NoRows for what is no width, then for what is no size."""
    check_width(width)
    if not is_integer(size) or size < 0:
        raise NoRows("size", -1)


def checked_rows(part, rows, size, width):
    """A list of rows of one size as reduced lists; raises NoRows."""
    if not isinstance(rows, (list, tuple)):
        raise NoRows(part, -1)
    for index, row in enumerate(rows):
        if not is_row(row, size):
            raise NoRows(part, index)
    return [list(reduced(row, width)) for row in rows]


def checked_row(part, row, size, width):
    """A row of a size as a reduced list; raises NoRows."""
    if not is_row(row, size):
        raise NoRows(part, -1)
    return list(reduced(row, width))
