"""Steps of trees and contexts: what they are, and the states that they come to."""

from leastattr.checks import is_between, is_integers, is_known, is_sequence, is_tuple
from leastattr.errors import NoContext, NoTree
from leastattr.grammars import attribute_counts
from leastattr.sums import reduced, sum_value

MOST_STEPS = 2000
HOLE = ""


def rule_table(grammar):
    """A dict from the names of the rules to the rules."""
    return {rule[0]: rule for rule in grammar.rules}


def checked_tree(grammar, tree):
    """The list of the kinds of the steps of a tree; raises NoTree."""
    if not is_sequence(tree, 1, MOST_STEPS):
        raise NoTree(-1)
    rules = rule_table(grammar)
    kinds = []
    for index, item in enumerate(tree):
        if not is_step(item, rules, kinds):
            raise NoTree(index)
        kinds.append(rules[item[0]][1])
    return kinds


def is_step(thing, rules, kinds):
    """Whether a value is a step behind earlier ones of these kinds."""
    if not is_tuple(thing, 3, 3):
        return False
    name, places, numbers = thing
    if not is_known(name, rules):
        return False
    return are_places(places, rules[name][2], kinds) and is_integers(numbers, rules[name][3])


def are_places(thing, children, kinds):
    """Whether a value is the tuple of the places of earlier steps of the children's kinds."""
    if not is_tuple(thing, len(children), len(children)):
        return False
    last = len(kinds) - 1
    return all([is_between(place, 0, last) and kinds[place] == child for place, child in zip(thing, children)])


def checked_context(grammar, context):
    """The list of the kinds of the steps of a context, and the place of its hole; raises NoContext."""
    if not is_sequence(context, 1, MOST_STEPS):
        raise NoContext(-1)
    rules = rule_table(grammar)
    counts = attribute_counts(grammar.kinds)
    kinds = []
    hole = -1
    for index, item in enumerate(context):
        if hole == -1 and is_hole(item, counts):
            hole = index
            kinds.append(item[1])
        elif is_step(item, rules, kinds):
            kinds.append(rules[item[0]][1])
        else:
            raise NoContext(index)
    if times_in_root(context, hole) != 1:
        raise NoContext(-1)
    return kinds, hole


def is_hole(thing, kinds):
    """Whether a value is a hole of one of the kinds that are the keys of a dict."""
    return is_tuple(thing, 2, 2) and isinstance(thing[0], str) and thing[0] == HOLE and is_known(thing[1], kinds)


def times_in_root(context, hole):
    """How many times the hole at a place stands in the tree that is meant."""
    times = []
    for index, item in enumerate(context):
        if index == hole:
            times.append(1)
        else:
            times.append(sum([times[place] for place in item[1]]))
    return times[-1]


def root_state(grammar, steps, inside):
    """The tuple of the attributes of the root of a tree, or of a context with these inside its hole."""
    rules = rule_table(grammar)
    width = grammar.width
    states = []
    for item in steps:
        if item[0] == HOLE:
            states.append(inside)
        else:
            children = [states[place] for place in item[1]]
            numbers = reduced(item[2], width)
            values = rules[item[0]][4]
            states.append(tuple([sum_value(terms, children, numbers, width) for terms in values]))
    return states[-1]
