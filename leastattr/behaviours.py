"""How many registers a kind of node needs, and papers that show it."""

from leastattr.building import tree_steps
from leastattr.errors import NoPaper
from leastattr.grammars import kind_place
from leastattr.hulls import differences, state_of_tree
from leastattr.modules import chosen_indexes
from leastattr.reduction import invariants
from leastattr.spans import product_of
from leastattr.sums import form_value
from leastattr.surroundings import explored
from leastattr.wants import form_of_pair, told_pair


def least(grammar, kind):
    """The least number of registers for a kind of any right code."""
    place = kind_place(grammar, kind)
    growth, surroundings = explored(grammar)
    return least_at(growth, surroundings, place, grammar.width)


def least_numbers(grammar):
    """The list of the least numbers of registers for all kinds."""
    growth, surroundings = explored(grammar)
    return [least_at(growth, surroundings, place, grammar.width) for place in range(len(grammar.kinds))]


def table(grammar, kind, paper):
    """The list of the tuples of the answers that the contexts of a paper give with each of its trees."""
    kind_place(grammar, kind)
    states, forms = checked_paper(grammar, kind, paper)
    return [tuple([form_value(form, state, grammar.width) for form in forms]) for state in states]


def shown(grammar, kind, paper):
    """How many registers a paper shows to be needed."""
    rows = table(grammar, kind, paper)
    return len(invariants(differences(rows, grammar.width), grammar.width))


def paper(grammar, kind):
    """A paper that shows that as many registers are needed as are enough."""
    place = kind_place(grammar, kind)
    growth, surroundings = explored(grammar)
    if len(growth.of_kind[place]) == 0:
        return [], []
    rows = told_differences(growth, surroundings, place, grammar.width)
    chosen = chosen_indexes(rows, grammar.width)
    # The columns of as many rows as are needed have as many generators.
    columns = chosen_indexes(turned([rows[index] for index in chosen]), grammar.width)
    trees = [growth.of_kind[place][index] for index in [0] + [1 + index for index in chosen]]
    contexts = [surroundings.of_kind[place][index] for index in columns]
    return ([tree_steps(grammar, growth.found, tree) for tree in trees],
            [told_pair(grammar, growth, surroundings, context) for context in contexts])


def told_differences(growth, surroundings, kind, width):
    """What the kept contexts tell of what each later kept tree of a kind has more than the first one."""
    asked = surroundings.asked(kind)
    return [[product_of(row, more, width) for row in asked] for more in differences(growth.states(kind), width)]


def least_at(growth, surroundings, kind, width):
    """How many generators there are of what contexts tell of the trees of a kind."""
    return len(invariants(told_differences(growth, surroundings, kind, width), width))


def turned(rows):
    """The columns of a table that has rows, as lists."""
    if len(rows) == 0:
        return []
    return [[row[column] for row in rows] for column in range(len(rows[0]))]


def checked_paper(grammar, kind, thing):
    """The attributes of the trees of a paper, and the forms of the answers in its contexts; raises NoPaper."""
    if not isinstance(thing, tuple) or [isinstance(part, list) for part in thing] != [True, True]:
        raise NoPaper("paper", -1)
    states = [state_of_tree(grammar, kind, tree) for tree in thing[0]]
    if None in states:
        raise NoPaper("trees", states.index(None))
    forms = [form_of_pair(grammar, kind, pair) for pair in thing[1]]
    if None in forms:
        raise NoPaper("contexts", forms.index(None))
    return states, forms
