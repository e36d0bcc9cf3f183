"""Grammars: kinds of nodes, their attributes, and the rules by which nodes get them."""

from leastattr.checks import is_between, is_known, is_name, is_sequence, is_tuple, is_width
from leastattr.errors import NoGrammar, NoKind
from leastattr.sums import is_sum, reduced, reduced_sum, wrong_answers

MOST_KINDS = 5
MOST_ATTRIBUTES = 3
MOST_RULES = 12
MOST_CHILDREN = 2
MOST_NUMBERS = 2
MOST_TERMS = 12
MOST_ANSWERS = 4


class Grammar:
    """Kinds, rules, a top kind and answers; all reckoning is modulo 2 ** width."""

    def __init__(self, width, kinds, rules, top, answers):
        if not is_width(width):
            raise NoGrammar("width", -1)
        own_kinds = checked_kinds(kinds)
        sizes = attribute_counts(own_kinds)
        own_rules = checked_rules(rules, sizes, width)
        if not is_known(top, sizes):
            raise NoGrammar("top", -1)
        own_answers = checked_answers(answers, sizes[top], width)
        self.width = width
        self.kinds = own_kinds
        self.rules = own_rules
        self.top = top
        self.answers = own_answers

    def __eq__(self, other):
        return (isinstance(other, Grammar) and self.width == other.width and self.kinds == other.kinds
                and self.rules == other.rules and self.top == other.top and self.answers == other.answers)


def checked_kinds(kinds):
    """The kinds of a grammar as a tuple; raises NoGrammar."""
    if not is_sequence(kinds, 1, MOST_KINDS):
        raise NoGrammar("kinds", -1)
    found = {}
    for index, item in enumerate(kinds):
        if not is_kind(item) or item[0] in found:
            raise NoGrammar("kinds", index)
        found[item[0]] = tuple(item[1])
    return tuple([(name, found[name]) for name in found])


def is_kind(thing):
    """Whether a value is a tuple of the name of a kind and its attributes."""
    if not is_tuple(thing, 2, 2):
        return False
    name, attributes = thing
    if not is_name(name) or not is_tuple(attributes, 1, MOST_ATTRIBUTES):
        return False
    if not all([is_name(attribute) for attribute in attributes]):
        return False
    return len(set(attributes)) == len(attributes)


def attribute_counts(kinds):
    """A dict from the names of the kinds to the numbers of their attributes."""
    return {name: len(attributes) for name, attributes in kinds}


def kind_places(grammar):
    """A dict from the names of the kinds of a grammar to their indexes."""
    return {name: place for place, (name, _) in enumerate(grammar.kinds)}


def kind_place(grammar, kind):
    """The index of a kind of a grammar; raises NoKind."""
    places = kind_places(grammar)
    if not is_known(kind, places):
        raise NoKind(kind)
    return places[kind]


def checked_rules(rules, sizes, width):
    """The rules of a grammar as a tuple, with reduced factors; raises NoGrammar."""
    if not is_sequence(rules, 1, MOST_RULES):
        raise NoGrammar("rules", -1)
    found = {}
    for index, item in enumerate(rules):
        if not is_rule(item, sizes) or item[0] in found:
            raise NoGrammar("rules", index)
        name, kind, children, numbers, values = item
        own_values = tuple([reduced_sum(terms, width) for terms in values])
        found[name] = (name, kind, tuple(children), numbers, own_values)
    return tuple([found[name] for name in found])


def is_rule(thing, sizes):
    """Whether a value is a rule over kinds with so many attributes each."""
    if not is_tuple(thing, 5, 5):
        return False
    name, kind, children, numbers, values = thing
    if not is_name(name) or not is_known(kind, sizes):
        return False
    if not is_tuple(children, 0, MOST_CHILDREN) or not all([is_known(child, sizes) for child in children]):
        return False
    if not is_between(numbers, 0, MOST_NUMBERS) or not is_tuple(values, sizes[kind], sizes[kind]):
        return False
    child_sizes = [sizes[child] for child in children]
    return all([is_sum(terms, child_sizes, numbers, MOST_TERMS) for terms in values])


def checked_answers(answers, many, width):
    """The forms of answers over so many attributes as a tuple, reduced; raises NoGrammar."""
    wrong = wrong_answers(answers, many, MOST_ANSWERS)
    if wrong is not None:
        raise NoGrammar("answers", wrong)
    return tuple([reduced(form, width) for form in answers])
