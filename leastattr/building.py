"""Steps of trees and contexts that were found, without those that are not needed."""

from leastattr.steps import HOLE


def used_places(trees, roots):
    """The ascending list of the places of all found trees that some of them consist of."""
    needed = {}
    waiting = list(roots)
    while waiting:
        place = waiting.pop()
        if place not in needed:
            needed[place] = True
            waiting.extend(trees[place].children)
    return sorted(needed)


def steps_at(grammar, trees, order):
    """The list of the steps of found trees at these places; each child stands ahead of what it is a child of."""
    moved = moved_places(order)
    steps = []
    for place in order:
        tree = trees[place]
        steps.append((grammar.rules[tree.rule][0], tuple([moved[child] for child in tree.children]), tree.numbers))
    return steps


def moved_places(order):
    """A dict from places to where they stand in a list of them."""
    return {place: at for at, place in enumerate(order)}


def tree_steps(grammar, trees, place):
    """The list of the steps of a found tree."""
    # Children are found before what they are children of, so the root stands last.
    return steps_at(grammar, trees, used_places(trees, [place]))


def context_steps(grammar, trees, contexts, place):
    """The list of the steps of a found context: the trees beside the hole, the hole, and the steps around it."""
    ways = ways_outwards(contexts, place)
    order = used_places(trees, [way.mate for way in ways if way.mate != -1])
    moved = moved_places(order)
    steps = steps_at(grammar, trees, order)
    steps.append((HOLE, grammar.kinds[contexts[place].kind][0]))
    for way in ways:
        inner = len(steps) - 1
        name, _, children = grammar.rules[way.rule][:3]
        places = [inner if side == way.side else moved[way.mate] for side in range(len(children))]
        steps.append((name, tuple(places), way.numbers))
    return steps


def ways_outwards(contexts, place):
    """The list of the steps around the hole of a found context, from the hole to the root."""
    ways = []
    around = contexts[place]
    while around.outer != -1:
        ways.append(around.way)
        around = contexts[around.outer]
    return ways
