"""Contexts around all kinds, the smaller ones first, with whose answers all that is wanted is told."""

from heapq import heappop, heappush

from leastattr.grammars import kind_places
from leastattr.growth import grown
from leastattr.spans import empty_span
from leastattr.systems import grammar_system


class Way:
    """A step around a hole: its rule, the index of the hole among its children, the tree beside it, its numbers.

    mate is the place of this tree among those that were found, -1 if there is none; nodes is how many nodes the
    step and it have, forms are those over the attributes of the hole.
    """

    def __init__(self, rule, side, mate, numbers, nodes, forms):
        self.rule = rule
        self.side = side
        self.mate = mate
        self.numbers = numbers
        self.nodes = nodes
        self.forms = forms


class Around:
    """A context and an answer: the kind of the hole, the linear part, the index of the answer, the nodes.

    way is the step around the hole, and outer the place of the context around this step; None and -1 if the hole
    is the root.
    """

    def __init__(self, kind, row, answer, nodes, way, outer):
        self.kind = kind
        self.row = row
        self.answer = answer
        self.nodes = nodes
        self.way = way
        self.outer = outer


class Surroundings:
    """Goes through contexts by how many nodes they have, and keeps those that ask for more than those kept before.

    growth has gone through all trees. The linear part of an answer is a sum of multiples of what kept contexts ask
    through a step with a kept tree beside the hole, and these can be taken with no more nodes, as in Growth, unless
    it has let go of trees.
    """

    def __init__(self, growth, top, answers):
        self.system = growth.system
        self.found = []
        self.of_kind = [[] for _ in self.system.sizes]
        self.spans = [empty_span(size, self.system.width) for size in self.system.sizes]
        self.ways = [[] for _ in self.system.sizes]
        for at in range(len(self.system.rules)):
            self.add_ways(growth, at)
        self.offers = []
        self.queue = []
        for index, answer in enumerate(answers):
            self.offer(Around(top, answer[1:], index, 0, None, -1))

    def add_ways(self, growth, at):
        """Keeps all steps of a rule around a hole, with kept trees beside it, by the kind of their root."""
        rule = self.system.rules[at]
        for side, child in enumerate(rule.children):
            size = self.system.sizes[child]
            for mate, nodes, children in beside(growth, rule, side):
                for numbers, forms in rule.open_forms(side, size, children):
                    self.ways[rule.kind].append(Way(at, side, mate, numbers, 1 + nodes, forms))

    def next_context(self):
        """The place of the next context that is kept, None if there are no more."""
        while self.queue:
            _, serial = heappop(self.queue)
            around = self.offers[serial]
            if self.spans[around.kind].grow(around.row):
                place = len(self.found)
                self.found.append(around)
                self.of_kind[around.kind].append(place)
                self.offer_inside(place)
                return place
        return None

    def finish(self):
        """Goes through all contexts that are left."""
        while self.next_context() is not None:
            pass

    def asked(self, kind):
        """The list of the linear parts of the kept contexts with a hole of a kind."""
        return [self.found[place].row for place in self.of_kind[kind]]

    def offer_inside(self, place):
        """Offers the contexts that a kept one becomes with one step more around its hole."""
        outer = self.found[place]
        for way in self.ways[outer.kind]:
            child = self.system.rules[way.rule].children[way.side]
            row = asked_through(outer.row, way.forms, self.system.width)
            self.offer(Around(child, row, outer.answer, outer.nodes + way.nodes, way, place))

    def offer(self, around):
        """Offers a context, unless what it asks is asked already."""
        if self.spans[around.kind].is_outside(around.row):
            heappush(self.queue, (around.nodes, len(self.offers)))
            self.offers.append(around)


def beside(growth, rule, side):
    """A list of tuples (mate, nodes, children): what may stand beside a hole that is the child of an index."""
    if len(rule.children) == 1:
        return [(-1, 0, (None,))]
    found = []
    for mate in growth.of_kind[rule.children[1 - side]]:
        tree = growth.found[mate]
        found.append((mate, tree.nodes, (None, tree.state) if side == 0 else (tree.state, None)))
    return found


def asked_through(row, forms, width):
    """The linear part over the attributes of a hole that a linear part over the attributes of a step becomes."""
    total = [0] * (len(forms[0]) - 1)
    for factor, form in zip(row, forms):
        total = [number + factor * more for number, more in zip(total, form[1:])]
    return tuple([number % (1 << width) for number in total])


def surrounded(grammar, growth):
    """What goes through the contexts of a grammar; growth has gone through all its trees."""
    return Surroundings(growth, kind_places(grammar)[grammar.top], grammar.answers)


def explored(grammar):
    """What has gone through all trees of a grammar, and what has gone through all its contexts."""
    growth = grown(grammar_system(grammar))
    surroundings = surrounded(grammar, growth)
    surroundings.finish()
    return growth, surroundings
