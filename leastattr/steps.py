"""Steps of trees and contexts: what they are, and the states that they come to."""

from leastattr.checks import is_between, is_integers, is_known, is_sequence, is_tuple
from leastattr.errors import NoContext, NoTree
from leastattr.grammars import attribute_counts
from leastattr.sums import reduced, sum_value

MOST_STEPS = 2000
HOLE = ""


def rule_table(grammar):
    """A dict from the names of the rules to the rules."""
    return {rule[0]: rule for rule in grammar.rules}


def checked_tree(grammar, tree):
    """The list of the kinds of the steps of a tree; raises NoTree."""
    if not is_sequence(tree, 1, MOST_STEPS):
        raise NoTree(-1)
    rules = rule_table(grammar)
    kinds = []
    for index, item in enumerate(tree):
        if not is_step(item, rules, kinds):
            raise NoTree(index)
        kinds.append(rules[item[0]][1])
    return kinds


def is_step(thing, rules, kinds):
    """Whether a value is a step behind earlier ones of these kinds."""
    if not is_tuple(thing, 3, 3):
        return False
    name, places, numbers = thing
    if not is_known(name, rules):
        return False
    return are_places(places, rules[name][2], kinds) and is_integers(numbers, rules[name][3])


def are_places(thing, children, kinds):
    """Whether a value is the tuple of the places of earlier steps of the children's kinds."""
    if not is_tuple(thing, len(children), len(children)):
        return False
    last = len(kinds) - 1
    return all([is_between(place, 0, last) and kinds[place] == child for place, child in zip(thing, children)])


def checked_context(grammar, context):
    """The list of the kinds of the steps of a context, and the place of its hole; raises NoContext."""
    if not is_sequence(context, 1, MOST_STEPS):
        raise NoContext(-1)
    rules = rule_table(grammar)
    counts = attribute_counts(grammar.kinds)
    kinds = []
    hole = -1
    for index, item in enumerate(context):
        if hole == -1 and is_hole(item, counts):
            hole = index
            kinds.append(item[1])
        elif is_step(item, rules, kinds):
            kinds.append(rules[item[0]][1])
        else:
            raise NoContext(index)
    if hole == -1 or step_times(context)[hole] != 1:
        raise NoContext(-1)
    return kinds, hole


def is_hole(thing, kinds):
    """Whether a value is a hole of one of the kinds that are the keys of a dict."""
    return is_tuple(thing, 2, 2) and isinstance(thing[0], str) and thing[0] == HOLE and is_known(thing[1], kinds)


def step_times(steps):
    """The list of how many times each step stands in the tree that is meant."""
    times = [0] * len(steps)
    times[-1] = 1
    for at in range(len(steps) - 1, -1, -1):
        if times[at] != 0 and steps[at][0] != HOLE:
            for place in steps[at][1]:
                times[place] += times[at]
    return times


def node_counts(steps):
    """The list of how many nodes the trees have that steps stand for; a hole is no node."""
    counts = []
    for item in steps:
        counts.append(0 if item[0] == HOLE else 1 + sum([counts[place] for place in item[1]]))
    return counts


def root_state(grammar, steps, inside):
    """The tuple of the attributes of the root of a tree, or of a context with these inside its hole."""
    return step_states(grammar, steps, inside)[-1]


def step_states(grammar, steps, inside):
    """The list of the attributes of all steps of a tree, or of a context with these inside its hole."""
    rules = rule_table(grammar)
    width = grammar.width
    states = []
    for item in steps:
        if item[0] == HOLE:
            states.append(inside)
        else:
            children = [states[place] for place in item[1]]
            numbers = reduced(item[2], width)
            values = rules[item[0]][4]
            states.append(tuple([sum_value(terms, children, numbers, width) for terms in values]))
    return states
