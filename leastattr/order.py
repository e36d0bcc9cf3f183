"""Whether children may change places, sums be bracketed otherwise, loops do anything, or doubled children say more."""

from leastattr.building import tree_steps
from leastattr.checks import is_known
from leastattr.degrees import pair_places, squared_size, squared_system
from leastattr.errors import NoRule
from leastattr.grammars import attribute_counts, kind_places
from leastattr.growth import Growth
from leastattr.likeness import Likeness
from leastattr.maps import applied, checked_loop, checked_loops, composed, loop_map
from leastattr.smallest import smallest_nonzero
from leastattr.steps import root_state
from leastattr.sums import reduced
from leastattr.surroundings import asked_through
from leastattr.systems import grammar_system, tuples_of


def swaps(grammar, name):
    """None if the children of a rule may change places; otherwise a tuple (a, b, numbers, context, index)."""
    at = rule_place(grammar, name)
    _, kind, children, _, _ = grammar.rules[at]
    if len(children) != 2 or children[0] != children[1]:
        raise NoRule(name)
    likeness = Likeness(grammar, kind_places(grammar)[kind])
    return first_apart(likeness, at, children[0], 2, swapped)


def brackets(grammar, name):
    """None if a rule may be bracketed otherwise; otherwise a tuple (a, b, c, context, index)."""
    at = rule_place(grammar, name)
    _, kind, children, numbers, _ = grammar.rules[at]
    if children != (kind, kind) or numbers != 0:
        raise NoRule(name)
    likeness = Likeness(grammar, kind_places(grammar)[kind])
    found = first_apart(likeness, at, kind, 3, bracketed)
    return None if found is None else found[:3] + found[4:]


def idle(grammar, context):
    """None if a loop does nothing; otherwise a tuple (tree, context, index)."""
    kind = checked_loop(grammar, context)
    rows = loop_map(grammar, context)
    return maps_apart(grammar, kind, rows, loop_map(grammar, [("", kind)]))


def crossed(grammar, one, other):
    """None if two loops may change places; otherwise a tuple (tree, context, index)."""
    kind = checked_loops(grammar, one, other)
    first = loop_map(grammar, one)
    second = loop_map(grammar, other)
    return maps_apart(grammar, kind, composed(first, second, grammar.width), composed(second, first, grammar.width))


def doubled(grammar, name):
    """None if a doubled child says nothing new; otherwise a tuple (a, numbers, context, index)."""
    at = rule_place(grammar, name)
    _, kind, children, _, _ = grammar.rules[at]
    if children != (kind, kind):
        raise NoRule(name)
    likeness = Likeness(grammar, kind_places(grammar)[kind])
    rule = likeness.growth.system.rules[at]
    size = attribute_counts(grammar.kinds)[kind]
    forms = [doubled_form(row, grammar.rules[at][4], worths, size, grammar.width)
             for row in likeness.rows for _, worths in rule.choices]
    steps = smallest_nonzero(grammar, squared_system(grammar), likeness.kind, forms)
    if steps is None:
        return None
    state = root_state(grammar, steps, ())
    apart = [numbers for numbers, _ in rule.choices
             if not likeness.is_alike(rule.reckoned((state, state), numbers), state)]
    return (steps, apart[0]) + likeness.witness(rule.reckoned((state, state), apart[0]), state)


def rule_place(grammar, name):
    """The index of the rule of a name; raises NoRule."""
    places = {rule[0]: at for at, rule in enumerate(grammar.rules)}
    if not is_known(name, places):
        raise NoRule(name)
    return places[name]


def swapped(rule, states):
    """A list of tuples (numbers, one, other): the nodes of two children, and of these turned about."""
    return [(numbers, rule.reckoned(states, numbers), rule.reckoned(states[::-1], numbers))
            for numbers, _ in rule.choices]


def bracketed(rule, states):
    """A list with a tuple (numbers, one, other): the nodes of three, bracketed in two ways."""
    one = rule.reckoned((rule.reckoned(states[:2], ()), states[2]), ())
    return [((), one, rule.reckoned((states[0], rule.reckoned(states[1:], ())), ()))]


def first_apart(likeness, at, kind, many, made):
    """None if all that is made of so many trees is alike; otherwise a tuple of those trees, the numbers, and the pair.

    What is made is affine in each of the trees, so trees that have the hull tell whether there are any. The fewest
    nodes together have then trees of the fewest nodes that have the hulls of all that are as small.
    """
    place = kind_places(likeness.grammar)[kind]
    near = apart_among(likeness, likeness.growth, at, place, many, made)
    if near is None:
        return None
    growth = Growth(likeness.growth.system)
    bound = nodes_together(likeness.growth, near[0])
    tree = growth.next_tree()
    while tree is not None and growth.found[tree].nodes < bound:
        tree = growth.next_tree()
    trees, numbers, one, other = apart_among(likeness, growth, at, place, many, made)
    steps = tuple([tree_steps(likeness.grammar, growth.found, index) for index in trees])
    return steps + (numbers,) + likeness.witness(one, other)


def apart_among(likeness, growth, at, place, many, made):
    """A tuple (trees, numbers, one, other): kept trees with the fewest nodes that make what is not alike, or None."""
    rule = growth.system.rules[at]
    chosen = tuples_of([growth.of_kind[place]] * many)
    for _, trees in sorted([(nodes_together(growth, trees), trees) for trees in chosen]):
        states = [growth.found[index].state for index in trees]
        for numbers, one, other in made(rule, states):
            if not likeness.is_alike(one, other):
                return trees, numbers, one, other
    return None


def nodes_together(growth, trees):
    """How many nodes some kept trees have together."""
    return sum([growth.found[index].nodes for index in trees])


def maps_apart(grammar, kind, one, other):
    """None if two maps make alike of all trees of a kind; otherwise a tuple (tree, context, index)."""
    place = kind_places(grammar)[kind]
    likeness = Likeness(grammar, place)
    gap = [[number - less for number, less in zip(row, rest)] for row, rest in zip(one[1:], other[1:])]
    forms = [through(row, gap, grammar.width) for row in likeness.rows]
    steps = smallest_nonzero(grammar, grammar_system(grammar), place, forms)
    if steps is None:
        return None
    point = (1,) + root_state(grammar, steps, ())
    return (steps,) + likeness.witness(applied(one, point, grammar.width)[1:], applied(other, point, grammar.width)[1:])


def through(row, forms, width):
    """The form that a linear part over attributes becomes if these are forms."""
    constant = sum([factor * form[0] for factor, form in zip(row, forms)]) % (1 << width)
    return (constant,) + asked_through(row, forms, width)


def doubled_form(row, values, worths, size, width):
    """The form of degree two that a linear part has at a node with one tree as both children, less at this tree.

    worths are the numbers at the node.
    """
    places = pair_places(size)
    form = [0] * (squared_size(size) + 1)
    for index, factor in enumerate(row):
        form[1 + index] -= factor
        for more, picks, number in values[index]:
            worth = 1 if number == -1 else worths[number]
            form[1 + places[picks]] += factor * more * worth
    return reduced(form, width)
