"""Trees and contexts of a grammar: their values, kinds, nodes and answers."""

from leastattr.errors import NotTop, WrongKind
from leastattr.grammars import attribute_counts
from leastattr.reduction import unit_row
from leastattr.steps import checked_context, checked_tree, node_counts, root_state
from leastattr.sums import form_value, reduced


def value(grammar, tree):
    """The tuple of the attributes of the root of a tree."""
    checked_tree(grammar, tree)
    return root_state(grammar, tree, ())


def kind_of(grammar, tree):
    """The name of the kind of the root of a tree."""
    return checked_tree(grammar, tree)[-1]


def count_nodes(grammar, tree):
    """How many nodes the tree that is meant has."""
    checked_tree(grammar, tree)
    return node_counts(tree)[-1]


def answers_of(grammar, tree):
    """The list of the values of the answers at a tree of the top kind."""
    kind = checked_tree(grammar, tree)[-1]
    if kind != grammar.top:
        raise NotTop(kind)
    state = root_state(grammar, tree, ())
    return [form_value(form, state, grammar.width) for form in grammar.answers]


def kinds_of_context(grammar, context):
    """The tuple of the kinds of the hole and of the root of a context."""
    kinds, hole = checked_context(grammar, context)
    return kinds[hole], kinds[-1]


def context_map(grammar, context):
    """The tuple of the forms over the attributes of the hole that are those of the root."""
    kinds, hole = checked_context(grammar, context)
    many = attribute_counts(grammar.kinds)[kinds[hole]]
    # The hole stands just once in the tree that is meant, so each attribute of the root is a form
    # over those of the hole, and a form is told by its values at 0 and at the unit tuples.
    base = root_state(grammar, context, [0] * many)
    ends = [root_state(grammar, context, unit_row(many, place)) for place in range(many)]
    return tuple([form_through(base[at], [end[at] for end in ends], grammar.width) for at in range(len(base))])


def form_through(constant, values, width):
    """The form with a value at 0 and these values at the unit tuples."""
    return reduced([constant] + [worth - constant for worth in values], width)


def fill(grammar, context, tree):
    """The list of the steps of the tree that a context becomes with a tree in its hole."""
    hole = checked_context(grammar, context)[1]
    kind = checked_tree(grammar, tree)[-1]
    if kind != context[hole][1]:
        raise WrongKind(kind)
    steps = list(tree)
    if hole == len(context) - 1:
        return steps
    ahead = [len(tree) + place for place in range(hole)]
    behind = [len(tree) + place for place in range(hole, len(context) - 1)]
    moved = ahead + [len(tree) - 1] + behind
    for name, places, numbers in context[:hole] + context[hole + 1:]:
        steps.append((name, tuple([moved[place] for place in places]), numbers))
    return steps
