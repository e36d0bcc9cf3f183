"""Smallest trees at which forms are not 0, or at which two systems of one shape give other answers."""

from leastattr.building import tree_steps
from leastattr.grammars import kind_places
from leastattr.growth import Growth
from leastattr.reduction import echelon_rows
from leastattr.spans import Span
from leastattr.sums import form_value, reduced
from leastattr.surroundings import Surroundings
from leastattr.systems import grammar_system, joined


def smallest_nonzero(grammar, system, kind, forms):
    """The steps of a tree of a kind with the fewest nodes at which some form is not 0, None if there is none.

    The system is that of the grammar, or one of its shape.
    """
    growth = Growth(system, few=True)
    place = next_nonzero(growth, kind, forms)
    if place is None:
        return None
    if not growth.is_exact:
        growth.finish()
        growth = Growth(system, spans=spans_of_use(growth, kind, forms))
        place = next_nonzero(growth, kind, forms)
    return tree_steps(grammar, growth.found, place)


def next_nonzero(growth, kind, forms):
    """The place of the next kept tree of a kind at which some form is not 0, None if there is none."""
    width = growth.system.width
    place = growth.next_tree()
    while place is not None:
        tree = growth.found[place]
        if growth.system.rules[tree.rule].kind == kind:
            if any([form_value(form, tree.state, width) != 0 for form in forms]):
                return place
        place = growth.next_tree()
    return None


def spans_of_use(growth, kind, forms):
    """Spans that begin with all that makes no difference for some forms over a kind in any context.

    States may have much that the forms never ask for, and it may take long to go through all of that by how many
    nodes it has. Trees that differ only in it may stand for one another, so the smaller one is enough.
    """
    width = growth.system.width
    surroundings = Surroundings(growth, kind, forms)
    surroundings.finish()
    found = []
    for place, size in enumerate(growth.system.sizes):
        asked = echelon_rows([list(row) for row in surroundings.asked(place)], width)
        found.append(Span([[1] + [0] * size] + [[0] + row for row in asked], width))
    return found


def first_difference(grammar, other, answers):
    """A tree with the fewest nodes at which the answers of another system of one shape differ, None if there is none.

    Both systems together are a system, so that an answer of one less that of the other is a form over its states.
    """
    top = kind_places(grammar)[grammar.top]
    forms = [difference_form(one, two, grammar.width) for one, two in zip(grammar.answers, answers)]
    return smallest_nonzero(grammar, joined(grammar_system(grammar), other), top, forms)


def difference_form(one, two, width):
    """The form over the states of two systems together that is a form over the first less one over the second."""
    return reduced((one[0] - two[0],) + one[1:] + tuple([-factor for factor in two[1:]]), width)
