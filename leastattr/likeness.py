"""Which trees of a kind are alike in all contexts, and the contexts that show it."""

from leastattr.spans import product_of
from leastattr.surroundings import explored
from leastattr.wants import told_pair


class Likeness:
    """What all contexts from a kind, told by its index, ask of its trees.

    Two states are alike if the products of the rows, linear parts, with what one has more are all 0.
    """

    def __init__(self, grammar, kind):
        growth, surroundings = explored(grammar)
        self.grammar = grammar
        self.growth = growth
        self.surroundings = surroundings
        self.kind = kind
        self.rows = surroundings.asked(kind)

    def heard(self, state):
        """The tuple of the products of the rows with a state; those of alike ones are equal."""
        return tuple([product_of(row, state, self.grammar.width) for row in self.rows])

    def is_alike(self, one, other):
        """Whether two states are alike."""
        return self.heard(one) == self.heard(other)

    def witness(self, one, other):
        """A tuple (context, index) that shows that two states are not alike."""
        differing = [at for at, (first, second) in enumerate(zip(self.heard(one), self.heard(other)))
                     if first != second]
        return told_pair(self.grammar, self.growth, self.surroundings,
                         self.surroundings.of_kind[self.kind][differing[0]])
