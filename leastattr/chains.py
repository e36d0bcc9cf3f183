"""Chains: loops that are put around a tree any number of times."""

from leastattr.checks import first_wrong, is_integer
from leastattr.errors import NoCount, NoForm, NotTop, WrongKind
from leastattr.grammars import attribute_counts, kind_places
from leastattr.growth import with_ones
from leastattr.likeness import Likeness
from leastattr.maps import Powers, applied, checked_loop, checked_loops, loop_map
from leastattr.steps import checked_tree, node_counts, root_state
from leastattr.sums import form_value, reduced
from leastattr.visits import first_visit

# The order of any invertible affine map of up to 3 numbers modulo 2 divides 84, and that of one that keeps all
# numbers modulo 2 divides 2 ** width.
ODD_TURNS = 84
PRIMES = (2, 3, 7)


def chain_value(grammar, context, tree, times):
    """The tuple of the attributes of the root of a chain."""
    checked_chain(grammar, context, tree)
    check_times(times)
    return chain_state(grammar, context, tree, times)


def chain_answers(grammar, context, tree, times):
    """The list of the answers of a chain."""
    kind = checked_chain(grammar, context, tree)
    check_times(times)
    if kind != grammar.top:
        raise NotTop(kind)
    state = chain_state(grammar, context, tree, times)
    return [form_value(form, state, grammar.width) for form in grammar.answers]


def chain_nodes(grammar, context, tree, times):
    """How many nodes a chain has."""
    checked_chain(grammar, context, tree)
    check_times(times)
    return node_counts(tree)[-1] + times * node_counts(context)[-1]


def comes_back(grammar, context, tree):
    """A tuple (ahead, period): from when on a chain comes back, and after how many times."""
    kind = checked_chain(grammar, context, tree)
    likeness = Likeness(grammar, kind_places(grammar)[kind])
    powers = Powers(loop_map(grammar, context), grammar.width)
    turns = ODD_TURNS << grammar.width
    point = point_of(grammar, tree)
    later = powers.moved(point, turns)
    ahead = 0
    while not likeness.is_alike(point[1:], later[1:]):
        point = powers.moved(point, 1)
        later = powers.moved(later, 1)
        ahead += 1
    return ahead, least_turning(likeness, powers, [point], turns)


def loop_order(grammar, context):
    """The least number of times, from 1 on, that a loop leaves all trees as they are; None if there is none."""
    kind = checked_loop(grammar, context)
    likeness = Likeness(grammar, kind_places(grammar)[kind])
    powers = Powers(loop_map(grammar, context), grammar.width)
    turns = ODD_TURNS << grammar.width
    points = with_ones(likeness.growth.states(likeness.kind))
    if not is_turned(likeness, powers, points, turns):
        return None
    return least_turning(likeness, powers, points, turns)


def parting(grammar, one, other, tree):
    """A tuple (times, context, index): when and where the chains of two loops are not alike; None if they always are.

    Loops that do the same so many times do it with all sums of multiples of the attributes there, and all later ones
    are such.
    """
    kind = checked_loops(grammar, one, other)
    check_tree_of(grammar, tree, kind)
    likeness = Likeness(grammar, kind_places(grammar)[kind])
    first = loop_map(grammar, one)
    second = loop_map(grammar, other)
    point = point_of(grammar, tree)
    far = point
    for times in range(len(point) + 1):
        if not likeness.is_alike(point[1:], far[1:]):
            return (times,) + likeness.witness(point[1:], far[1:])
        point = applied(first, point, grammar.width)
        far = applied(second, far, grammar.width)
    return None


def first_time(grammar, context, tree, form, wish, *, start=0):
    """The least number of times, from start on, behind which a form has a value at a chain; None if there is none."""
    kind = checked_chain(grammar, context, tree)
    wrong = first_wrong(form, attribute_counts(grammar.kinds)[kind] + 1)
    if wrong is not None:
        raise NoForm(wrong)
    if not is_integer(wish):
        raise NoCount("wish")
    if not is_integer(start) or start < 0:
        raise NoCount("start")
    width = grammar.width
    rows = loop_map(grammar, context)
    point = Powers(rows, width).moved(point_of(grammar, tree), start)
    found = first_visit(rows, point, reduced(form, width), wish % (1 << width), width)
    return None if found is None else start + found


def checked_chain(grammar, context, tree):
    """The name of the kind of a chain; raises NoContext, NoTree and WrongKind."""
    kind = checked_loop(grammar, context)
    check_tree_of(grammar, tree, kind)
    return kind


def check_tree_of(grammar, tree, kind):
    """Raises NoTree, and WrongKind if a tree is not of a kind."""
    root = checked_tree(grammar, tree)[-1]
    if root != kind:
        raise WrongKind(root)


def check_times(times):
    """Raises NoCount for what is no number of times."""
    if not is_integer(times) or times < 0:
        raise NoCount("times")


def point_of(grammar, tree):
    """The attributes of a tree with a 1 ahead."""
    return [1] + list(root_state(grammar, tree, ()))


def chain_state(grammar, context, tree, times):
    """The tuple of the attributes of the root of what is a chain."""
    powers = Powers(loop_map(grammar, context), grammar.width)
    return tuple(powers.moved(point_of(grammar, tree), times)[1:])


def is_turned(likeness, powers, points, turns):
    """Whether points are alike to what they are after a number of times."""
    return all([likeness.is_alike(point[1:], powers.moved(point, turns)[1:]) for point in points])


def least_turning(likeness, powers, points, turns):
    """The least number of times that leaves points alike; all that do so divide each other, and one is told."""
    for prime in PRIMES:
        while turns % prime == 0 and is_turned(likeness, powers, points, turns // prime):
            turns = turns // prime
    return turns
