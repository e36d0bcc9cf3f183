"""What trees make: the hulls of the attributes of all trees of a kind."""

from leastattr.building import tree_steps
from leastattr.checks import first_wrong
from leastattr.errors import NoForm, NoTree
from leastattr.grammars import kind_place
from leastattr.growth import grown, with_ones
from leastattr.modules import as_tuples, chosen_indexes, kernel
from leastattr.reduction import echelon_rows, lessened, remainder
from leastattr.smallest import smallest_nonzero
from leastattr.steps import checked_tree, root_state
from leastattr.sums import reduced
from leastattr.systems import grammar_system


def hull(grammar, kind):
    """The hull of a kind, a tuple (base, module); None if there is no tree of it."""
    place = kind_place(grammar, kind)
    return hull_of(grown(grammar_system(grammar)).states(place), grammar.width)


def all_hulls(grammar):
    """The list of the hulls of all kinds."""
    growth = grown(grammar_system(grammar))
    return [hull_of(growth.states(place), grammar.width) for place in range(len(grammar.kinds))]


def relations(grammar, kind):
    """The echelon of all forms that are 0 at each tree of a kind."""
    place = kind_place(grammar, kind)
    rows = with_ones(grown(grammar_system(grammar)).states(place))
    return kernel(grammar.width, attributes_at(grammar, place) + 1, rows)


def nonzero(grammar, kind, form):
    """A tree of a kind with the fewest nodes at which a form is not 0, None if there is none."""
    place = kind_place(grammar, kind)
    wrong = first_wrong(form, attributes_at(grammar, place) + 1)
    if wrong is not None:
        raise NoForm(wrong)
    return smallest_nonzero(grammar, grammar_system(grammar), place, [reduced(form, grammar.width)])


def spanning_trees(grammar, kind):
    """A list of as few trees of a kind as have its hull."""
    place = kind_place(grammar, kind)
    growth = grown(grammar_system(grammar))
    chosen = chosen_indexes(with_ones(growth.states(place)), grammar.width)
    return [tree_steps(grammar, growth.found, growth.of_kind[place][index]) for index in chosen]


def is_spanning(grammar, kind, trees):
    """Whether a value is a list of trees of a kind that have its hull."""
    place = kind_place(grammar, kind)
    if not isinstance(trees, list):
        return False
    states = [state_of_tree(grammar, kind, tree) for tree in trees]
    if not all([state is not None for state in states]):
        return False
    return hull_of(states, grammar.width) == hull_of(grown(grammar_system(grammar)).states(place), grammar.width)


def attributes_at(grammar, place):
    """How many attributes the kind with an index has."""
    return len(grammar.kinds[place][1])


def hull_of(states, width):
    """The hull of some tuples of attributes, None if there are none."""
    if len(states) == 0:
        return None
    module = echelon_rows(differences(states, width), width)
    return tuple(remainder(list(states[0]), module, width)), as_tuples(module)


def differences(states, width):
    """The rows of what later tuples of attributes have more than the first one."""
    return [lessened(list(state), 1, states[0], width) for state in states[1:]]


def state_of_tree(grammar, kind, thing):
    """The attributes of a value that is a tree of a kind; None for what is none."""
    try:
        root = checked_tree(grammar, thing)[-1]
    except NoTree:
        return None
    return root_state(grammar, thing, ()) if root == kind else None
