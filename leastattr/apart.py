"""Where two grammars of one shape give other answers."""

from leastattr.errors import NotOver
from leastattr.smallest import first_difference
from leastattr.systems import grammar_system


def apart(one, other):
    """None if two grammars give the same answers; otherwise a tree with the fewest nodes for which they do not."""
    check_one_shape(one, other)
    return first_difference(one, grammar_system(other), other.answers)


def check_one_shape(one, other):
    """Raises NotOver if two grammars do not have one shape."""
    if shape_frame(one) != shape_frame(other):
        raise NotOver(-1)
    for index, rule in enumerate(one.rules):
        if rule[:4] != other.rules[index][:4]:
            raise NotOver(index)


def shape_frame(grammar):
    """What grammars of one shape have in common besides their rules."""
    names = [name for name, _ in grammar.kinds]
    return [grammar.width, names, grammar.top, len(grammar.answers), len(grammar.rules)]
