"""Codes: registers for each kind of node, reckoned from those of the children."""

from leastattr.checks import is_between, is_sequence, is_tuple, is_width
from leastattr.errors import NoCode, NotOver, NotTop
from leastattr.grammars import MOST_ANSWERS, MOST_CHILDREN, MOST_KINDS, MOST_NUMBERS, MOST_RULES, kind_places
from leastattr.steps import checked_tree
from leastattr.sums import form_value, is_sum, reduced, reduced_sum, wrong_answers
from leastattr.systems import code_system, indexed_rules

MOST_REGISTERS = 16
MOST_CODE_TERMS = 400


class Code:
    """Numbers of registers, rules, a top kind and answers; kinds are told by their indexes."""

    def __init__(self, width, counts, rules, top, answers):
        if not is_width(width):
            raise NoCode("width", -1)
        own_counts = checked_counts(counts)
        own_rules = checked_code_rules(rules, own_counts, width)
        if not is_between(top, 0, len(own_counts) - 1):
            raise NoCode("top", -1)
        own_answers = checked_code_answers(answers, own_counts[top], width)
        self.width = width
        self.counts = own_counts
        self.rules = own_rules
        self.top = top
        self.answers = own_answers

    def __eq__(self, other):
        return (isinstance(other, Code) and self.width == other.width and self.counts == other.counts
                and self.rules == other.rules and self.top == other.top and self.answers == other.answers)


def registers(grammar, code, tree):
    """The tuple of the registers of the root of a tree."""
    check_over(grammar, code)
    checked_tree(grammar, tree)
    return root_registers(grammar, code, tree)


def code_answers(grammar, code, tree):
    """The list of the answers of a code for a tree of the top kind."""
    check_over(grammar, code)
    kind = checked_tree(grammar, tree)[-1]
    if kind != grammar.top:
        raise NotTop(kind)
    state = root_registers(grammar, code, tree)
    return [form_value(form, state, grammar.width) for form in code.answers]


def checked_counts(counts):
    """The numbers of registers as a tuple; raises NoCode."""
    if not is_sequence(counts, 1, MOST_KINDS):
        raise NoCode("counts", -1)
    for index, item in enumerate(counts):
        if not is_between(item, 0, MOST_REGISTERS):
            raise NoCode("counts", index)
    return tuple(counts)


def checked_code_rules(rules, counts, width):
    """The rules of a code as a tuple, with reduced factors; raises NoCode."""
    if not is_sequence(rules, 1, MOST_RULES):
        raise NoCode("rules", -1)
    found = []
    for index, item in enumerate(rules):
        if not is_code_rule(item, counts):
            raise NoCode("rules", index)
        kind, children, numbers, values = item
        found.append((kind, tuple(children), numbers, tuple([reduced_sum(terms, width) for terms in values])))
    return tuple(found)


def is_code_rule(thing, counts):
    """Whether a value is a rule over kinds with so many registers each."""
    if not is_tuple(thing, 4, 4):
        return False
    kind, children, numbers, values = thing
    last = len(counts) - 1
    if not is_between(kind, 0, last):
        return False
    if not is_tuple(children, 0, MOST_CHILDREN) or not all([is_between(child, 0, last) for child in children]):
        return False
    if not is_between(numbers, 0, MOST_NUMBERS) or not is_tuple(values, counts[kind], counts[kind]):
        return False
    child_counts = [counts[child] for child in children]
    return all([is_sum(terms, child_counts, numbers, MOST_CODE_TERMS) for terms in values])


def checked_code_answers(answers, many, width):
    """The forms of answers over so many registers as a tuple, reduced; raises NoCode."""
    wrong = wrong_answers(answers, many, MOST_ANSWERS)
    if wrong is not None:
        raise NoCode("answers", wrong)
    return tuple([reduced(form, width) for form in answers])


def check_over(grammar, code):
    """Raises NotOver if a value is no code that stands over a grammar."""
    if not isinstance(code, Code) or code_frame(code) != grammar_frame(grammar):
        raise NotOver(-1)
    for index, rule in enumerate(indexed_rules(grammar)):
        if code.rules[index][:3] != rule[:3]:
            raise NotOver(index)


def code_frame(code):
    """What a code must have in common with a grammar besides its rules."""
    return [code.width, len(code.counts), len(code.rules), len(code.answers), code.top]


def grammar_frame(grammar):
    """What a grammar must have in common with a code besides its rules."""
    top = kind_places(grammar)[grammar.top]
    return [grammar.width, len(grammar.kinds), len(grammar.rules), len(grammar.answers), top]


def root_registers(grammar, code, tree):
    """The tuple of the registers of the root of what is a tree."""
    system = code_system(code)
    rules = {rule[0]: system.rules[at] for at, rule in enumerate(grammar.rules)}
    states = []
    for name, places, numbers in tree:
        children = [states[place] for place in places]
        states.append(rules[name].reckoned(children, reduced(numbers, code.width)))
    return states[-1]
