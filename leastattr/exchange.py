"""Trees that may be exchanged for one another in all contexts."""

from leastattr.checks import is_sequence
from leastattr.errors import NoTree, WrongKind
from leastattr.grammars import kind_places
from leastattr.spans import product_of
from leastattr.steps import checked_tree, node_counts, root_state, step_states
from leastattr.surroundings import explored
from leastattr.trees import context_map
from leastattr.wants import answer_form, told_apart

MOST_TREES = 60


def exchangeable(grammar, one, other):
    """None if two trees of one kind may be exchanged; otherwise a smallest context that tells them apart, and where."""
    kind = checked_tree(grammar, one)[-1]
    other_kind = checked_tree(grammar, other)[-1]
    if other_kind != kind:
        raise WrongKind(other_kind)
    states = [root_state(grammar, tree, ()) for tree in (one, other)]
    told = told_apart(grammar, kind, states[0], states[1])
    if told is None:
        return None
    return told[0], first_answer_apart(grammar, told[0], states[0], states[1])


def first_answer_apart(grammar, context, one, other):
    """The least index of an answer that a context does not give alike with two states in its hole."""
    forms = context_map(grammar, context)
    gap = [number - less for number, less in zip(one, other)]
    worths = [product_of(answer_form(answer, forms, grammar.width)[1:], gap, grammar.width)
              for answer in grammar.answers]
    return [index for index, worth in enumerate(worths) if worth != 0][0]


def groups(grammar, trees):
    """The lists of the indexes of trees that may be exchanged for one another."""
    if not is_sequence(trees, 0, MOST_TREES):
        raise NoTree(-1)
    kinds = [checked_tree(grammar, tree)[-1] for tree in trees]
    states = [root_state(grammar, tree, ()) for tree in trees]
    return list(grouped(grammar, kinds, states).values())


def grouped(grammar, kinds, states):
    """A dict of lists of the indexes of those of some kinds and attributes that are alike in all contexts."""
    surroundings = explored(grammar)[1]
    asked = {name: surroundings.asked(place) for name, place in kind_places(grammar).items()}
    found = {}
    for index, kind in enumerate(kinds):
        told = tuple([product_of(row, states[index], grammar.width) for row in asked[kind]])
        found.setdefault((kind, told), []).append(index)
    return found


def shortened(grammar, tree):
    """The list of the representatives that the root of a tree needs, with those of their children as children."""
    kinds = checked_tree(grammar, tree)
    counts = node_counts(tree)
    chosen = {}
    for members in grouped(grammar, kinds, step_states(grammar, tree, ())).values():
        fewest = min([counts[index] for index in members])
        first = [index for index in members if counts[index] == fewest][0]
        for index in members:
            chosen[index] = first
    needed = needed_steps(tree, chosen)
    # A child of a representative has fewer nodes than it, and so has the child's own representative.
    order = [index for _, index in sorted([(counts[index], index) for index in needed])]
    moved = {index: at for at, index in enumerate(order)}
    return [(tree[index][0], tuple([moved[chosen[place]] for place in tree[index][1]]), tree[index][2])
            for index in order]


def needed_steps(tree, chosen):
    """The list of the representatives that are needed for the root; chosen tells that of each step."""
    needed = {}
    waiting = [chosen[len(tree) - 1]]
    while waiting:
        index = waiting.pop()
        if index not in needed:
            needed[index] = True
            waiting.extend([chosen[place] for place in tree[index][1]])
    return list(needed)
