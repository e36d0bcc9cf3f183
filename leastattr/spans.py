"""Modules that grow row by row, told by the rows whose product with each of their rows is 0."""

from leastattr.reduction import unit_row, zero_ahead


class Span:
    """A module that grows; a row is outside of it exactly if one of some rows has a product with it that is not 0.

    It begins with all rows whose product with each of the bounds is 0.
    """

    def __init__(self, bounds, width):
        self.width = width
        self.bounds = bounds

    def is_all(self):
        """Whether no row is outside any more."""
        return len(self.bounds) == 0

    def is_outside(self, row):
        """Whether a row is no element of the module."""
        return any([product_of(bound, row, self.width) != 0 for bound in self.bounds])

    def grow(self, row):
        """Takes a row into the module; returns whether it was outside of it."""
        worths = [product_of(bound, row, self.width) for bound in self.bounds]
        if not any(worths):
            return False
        carrying = [[worth] + bound for worth, bound in zip(worths, self.bounds)]
        self.bounds = [left[1:] for left in zero_ahead(carrying, self.width)]
        return True


def empty_span(size, width):
    """A module that begins with the row of zeros alone."""
    return Span([unit_row(size, place) for place in range(size)], width)


def product_of(one, other, width):
    """The sum of the products of the numbers of two rows at the same places."""
    return sum([number * factor for number, factor in zip(one, other)]) % (1 << width)
