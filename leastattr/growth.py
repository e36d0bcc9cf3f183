"""Trees of all kinds, the smaller ones first, whose attributes have the hulls of those of all trees."""

from heapq import heappop, heappush

from leastattr.modules import chosen_indexes
from leastattr.spans import empty_span
from leastattr.sums import form_value


class Found:
    """A tree: its rule, its children among the trees found before, its numbers, its nodes, and its attributes."""

    def __init__(self, rule, children, numbers, nodes, state):
        self.rule = rule
        self.children = children
        self.numbers = numbers
        self.nodes = nodes
        self.state = state


class Growth:
    """Goes through trees by how many nodes they have, and keeps those outside of the hulls of those kept before.

    A rule is affine in each child, so the attributes of any tree are in the hull of those that its rule makes of
    kept trees in the place of its children, and these can be taken with no more nodes. So the kept trees of at
    most so many nodes have the hull of all trees of at most so many nodes.

    If few trees are enough, those that are not needed for the hulls any more are let go, and the kept ones may then
    have more nodes than is needed. Spans may be told that begin with what makes no difference.
    """

    def __init__(self, system, few=False, spans=None):
        self.system = system
        self.few = few
        self.is_exact = True
        self.found = []
        self.of_kind = [[] for _ in system.sizes]
        self.spans = spans or [empty_span(size + 1, system.width) for size in system.sizes]
        self.offers = []
        self.queue = []
        for at, rule in enumerate(system.rules):
            if len(rule.children) == 0:
                self.offer_made(at, (), rule.open_forms(-1, 0, ()))

    def next_tree(self):
        """The place of the next tree that is kept, None if there are no more."""
        while self.queue:
            _, serial = heappop(self.queue)
            tree = self.offers[serial]
            kind = self.system.rules[tree.rule].kind
            if self.spans[kind].grow((1,) + tree.state):
                place = len(self.found)
                self.found.append(tree)
                self.of_kind[kind].append(place)
                if self.few:
                    self.let_go(kind)
                self.offer_around(place, kind)
                return place
        return None

    def let_go(self, kind):
        """Lets go of the trees of a kind that are not needed for its hull, if they are more than it may need."""
        if len(self.of_kind[kind]) > self.system.sizes[kind] + 1:
            chosen = chosen_indexes(with_ones(self.states(kind)), self.system.width)
            self.of_kind[kind] = [self.of_kind[kind][index] for index in chosen]
            self.is_exact = False

    def finish(self):
        """Goes through all trees that are left."""
        while self.next_tree() is not None:
            pass

    def states(self, kind):
        """The list of the attributes of the kept trees of a kind."""
        return [self.found[place].state for place in self.of_kind[kind]]

    def offer_around(self, place, kind):
        """Offers all trees that rules make of a kept tree and the kept trees beside it."""
        for at, rule in enumerate(self.system.rules):
            if not self.spans[rule.kind].is_all():
                for side, child in enumerate(rule.children):
                    if child == kind:
                        self.offer_beside(at, side, place)

    def offer_beside(self, at, side, place):
        """Offers all trees that a rule makes with a kept tree as the child of an index."""
        rule = self.system.rules[at]
        inside = self.found[place].state
        if len(rule.children) == 1:
            self.offer_made(at, (place,), rule.open_forms(-1, 0, (inside,)))
            return
        hole = 1 - side
        size = self.system.sizes[rule.children[hole]]
        choices = rule.open_forms(hole, size, (inside, None) if side == 0 else (None, inside))
        for mate in list(self.of_kind[rule.children[hole]]):
            # What has this tree as both children is offered but once.
            if side == 0 or mate != place:
                children = (place, mate) if side == 0 else (mate, place)
                self.offer_made(at, children, choices, self.found[mate].state)

    def offer_made(self, at, children, choices, inside=()):
        """Offers the trees of a rule with these children, unless they are in the hull already."""
        rule = self.system.rules[at]
        nodes = 1 + sum([self.found[child].nodes for child in children])
        for numbers, forms in choices:
            state = tuple([form_value(form, inside, self.system.width) for form in forms])
            if self.spans[rule.kind].is_outside((1,) + state):
                heappush(self.queue, (nodes, len(self.offers)))
                self.offers.append(Found(at, children, numbers, nodes, state))


def grown(system):
    """What has gone through all trees of a system, and has kept few."""
    growth = Growth(system, few=True)
    growth.finish()
    return growth


def with_ones(states):
    """Tuples of attributes as rows with a 1 ahead: sums of multiples of these with a 1 ahead are the hull."""
    return [[1] + list(state) for state in states]
