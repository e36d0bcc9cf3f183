"""Kinds that are split by the states of an automaton."""

from heapq import heappop, heappush

from leastattr.behaviours import least_at
from leastattr.building import tree_steps
from leastattr.checks import LETTERS, is_between, is_known, is_tuple
from leastattr.errors import NoAutomaton, NoSplit
from leastattr.grammars import MOST_KINDS, MOST_RULES, Grammar, attribute_counts, kind_places
from leastattr.growth import Found, grown
from leastattr.steps import checked_tree, rule_table
from leastattr.surroundings import Surroundings
from leastattr.systems import System, tuples_of

MOST_STATE = 5
TOP = "top"


class Reaching:
    """Goes through trees by how many nodes they have, and keeps the first one for each pair of a kind and a state."""

    def __init__(self, grammar, automaton):
        self.rules = grammar.rules
        self.automaton = automaton
        self.found = []
        self.places = {}
        self.offers = []
        self.queue = []
        for at, rule in enumerate(self.rules):
            if len(rule[2]) == 0:
                self.offer(at, ())
        while self.queue:
            _, serial = heappop(self.queue)
            self.take(self.offers[serial])

    def take(self, tree):
        """Keeps a tree, unless there is one of its pair already."""
        kind = self.rules[tree.rule][1]
        if (kind, tree.state) not in self.places:
            place = len(self.found)
            self.places[(kind, tree.state)] = place
            self.found.append(tree)
            self.offer_around(place, kind)

    def offer_around(self, place, kind):
        """Offers all trees that rules make of a kept tree and the kept trees beside it."""
        for at, rule in enumerate(self.rules):
            for side, child in enumerate(rule[2]):
                if child == kind:
                    for mates in self.beside(rule[2], side):
                        self.offer(at, mates[:side] + (place,) + mates[side:])

    def beside(self, children, side):
        """The list of the tuples of places of kept trees that may stand beside the child of an index."""
        if len(children) == 1:
            return [()]
        kind = children[1 - side]
        return [(self.places[pair],) for pair in self.places if pair[0] == kind]

    def offer(self, at, children):
        """Offers the tree of a rule with these children."""
        name, _, _, numbers, _ = self.rules[at]
        states = tuple([self.found[child].state for child in children])
        nodes = 1 + sum([self.found[child].nodes for child in children])
        heappush(self.queue, (nodes, len(self.offers)))
        self.offers.append(Found(at, children, (0,) * numbers, nodes, state_behind(self.automaton, name, states)))


def state_of(grammar, automaton, tree):
    """The state of a tree."""
    check_automaton(grammar, automaton)
    checked_tree(grammar, tree)
    states = []
    for name, places, _ in tree:
        states.append(state_behind(automaton, name, tuple([states[place] for place in places])))
    return states[-1]


def reached(grammar, automaton):
    """A list with a tuple (kind, state, tree) for each reached pair, the tree with the fewest nodes."""
    check_automaton(grammar, automaton)
    reaching = Reaching(grammar, automaton)
    return [(kind, state, tree_steps(grammar, reaching.found, reaching.places[(kind, state)]))
            for kind, state in pairs_in_order(grammar, reaching)]


def split_numbers(grammar, automaton):
    """A list with a tuple (kind, state, number) for each reached pair: how many registers it needs."""
    check_automaton(grammar, automaton)
    pairs = pairs_in_order(grammar, Reaching(grammar, automaton))
    counts = attribute_counts(grammar.kinds)
    sizes = [counts[kind] for kind, _ in pairs] + [counts[grammar.top]]
    growth = grown(System(grammar.width, sizes, split_rules(grammar, automaton, pairs)))
    surroundings = Surroundings(growth, len(pairs), grammar.answers)
    surroundings.finish()
    return [(kind, state, least_at(growth, surroundings, place, grammar.width))
            for place, (kind, state) in enumerate(pairs)]


def split_grammar(grammar, automaton):
    """A tuple of the split grammar and the list of the reached pairs."""
    check_automaton(grammar, automaton)
    pairs = pairs_in_order(grammar, Reaching(grammar, automaton))
    if len(pairs) + 1 > MOST_KINDS:
        raise NoSplit("kinds")
    rules = split_rules(grammar, automaton, pairs)
    if not 1 <= len(rules) <= MOST_RULES:
        raise NoSplit("rules")
    names = ["p" + LETTERS[place] for place in range(len(pairs))] + [TOP]
    attributes = {name: own for name, own in grammar.kinds}
    kinds = [(names[place], attributes[kind]) for place, (kind, _) in enumerate(pairs)]
    kinds.append((TOP, attributes[grammar.top]))
    named = [("r" + LETTERS[at], names[kind], tuple([names[child] for child in children]), numbers, values)
             for at, (kind, children, numbers, values) in enumerate(rules)]
    return Grammar(grammar.width, kinds, named, TOP, grammar.answers), pairs


def check_automaton(grammar, thing):
    """Raises NoAutomaton if a value is no automaton for a grammar."""
    if not isinstance(thing, dict):
        raise NoAutomaton()
    rules = rule_table(grammar)
    if not all([is_entry(key, state, rules) for key, state in thing.items()]):
        raise NoAutomaton()


def is_entry(key, state, rules):
    """Whether a key and a value may stand in an automaton."""
    if not is_tuple(key, 2, 2) or not is_known(key[0], rules):
        return False
    many = len(rules[key[0]][2])
    return is_tuple(key[1], many, many) and is_state(state) and all([is_state(own) for own in key[1]])


def is_state(thing):
    """Whether a value is a state."""
    return is_between(thing, 0, MOST_STATE)


def state_behind(automaton, name, states):
    """The state of a node of a rule whose children have these states."""
    return automaton.get((name, states), 0)


def pairs_in_order(grammar, reaching):
    """The list of the reached pairs, tuples (kind, state), by kinds in their order, then by states."""
    places = kind_places(grammar)
    return [(grammar.kinds[place][0], state)
            for place, state in sorted([(places[kind], state) for kind, state in reaching.places])]


def split_rules(grammar, automaton, pairs):
    """The rules of the split grammar without names; kinds by the indexes of their pairs, the top kind behind them."""
    places = {pair: place for place, pair in enumerate(pairs)}
    found = []
    for name, kind, children, numbers, values in grammar.rules:
        for given in tuples_of([[state for own, state in pairs if own == child] for child in children]):
            inner = tuple([places[pair] for pair in zip(children, given)])
            found.append((places[(kind, state_behind(automaton, name, given))], inner, numbers, values))
    size = attribute_counts(grammar.kinds)[grammar.top]
    same = tuple([((1, (index,), -1),) for index in range(size)])
    for place, (kind, _) in enumerate(pairs):
        if kind == grammar.top:
            found.append((len(pairs), (place,), 0, same))
    return found
