"""Grammars, trees and odd values that several tests use."""

import random

from leastattr.errors import NoKind
from leastattr.grammars import Grammar

SUMS_KINDS = [("leaf", ("n",)), ("row", ("size", "total"))]
SUMS_RULES = [
    ("one", "leaf", (), 1, (((1, (), 0),),)),
    ("nil", "row", (), 0, ((), ())),
    ("put", "row", ("row", "leaf"), 0, (
        ((1, (0, -1), -1), (1, (-1, -1), -1)),
        ((1, (1, -1), -1), (1, (-1, 0), -1)),
    )),
]
SUMS_ANSWERS = [(0, 2, 1)]

FIVE = [("nil", (), ()), ("one", (), (5,)), ("put", (0, 1), ()), ("put", (2, 1), ())]
LOOP = [("", "row"), ("one", (), (7,)), ("put", (0, 1), ())]


def sums_grammar(width=8):
    """The grammar `sums` of point 1."""
    return Grammar(width, SUMS_KINDS, SUMS_RULES, "row", SUMS_ANSWERS)


def nodes_grammar(width=8):
    """The grammar `nodes` of stage 4: n counts the nodes, m the leaves."""
    return Grammar(width, [("t", ("n", "m"))], [
        ("leaf", "t", (), 0, (((1, (), -1),), ((1, (), -1),))),
        ("join", "t", ("t", "t"), 0, (
            ((1, (0, -1), -1), (1, (-1, 0), -1), (1, (-1, -1), -1)),
            ((1, (1, -1), -1), (1, (-1, 1), -1)),
        )),
    ], "t", [(0, 1, 0)])


def places_grammar(width=8):
    """The grammar `places` of stage 4, whose joins multiply attributes of both children."""
    return Grammar(width, [("t", ("n", "s", "p"))], [
        ("leaf", "t", (), 1, (((1, (), -1),), ((1, (), 0),), ())),
        ("join", "t", ("t", "t"), 0, (
            ((1, (0, -1), -1), (1, (-1, 0), -1)),
            ((1, (1, -1), -1), (1, (-1, 1), -1)),
            ((1, (2, -1), -1), (1, (-1, 2), -1), (1, (0, 1), -1)),
        )),
    ], "t", [(0, 0, 0, 1)])


def mixed_grammar(width=8):
    """Two kinds, rules with 0 to 2 children and 0 to 2 numbers, terms that multiply all of them."""
    return Grammar(width, [("a", ("x", "y")), ("b", ("z",))], [
        ("la", "a", (), 2, (((3, (), 0), (1, (), -1)), ((-1, (), 1),))),
        ("lb", "b", (), 0, (((5, (), -1),),)),
        ("ua", "a", ("b",), 1, (((2, (0,), 0), (1, (-1,), 0)), ((1, (0,), -1), (7, (-1,), -1)))),
        ("ub", "b", ("a",), 2, (((1, (0,), 0), (3, (1,), 1), (1, (-1,), -1)),)),
        ("ja", "a", ("a", "b"), 1, (
            ((1, (0, 0), 0), (2, (1, -1), -1), (1, (-1, 0), -1)),
            ((3, (1, 0), -1), (1, (0, -1), 0), (9, (-1, -1), -1)),
        )),
        ("jb", "b", ("a", "a"), 0, (((1, (0, 1), -1), (1, (1, 0), -1), (-2, (1, 1), -1), (4, (0, -1), -1)),)),
    ], "b", [(1, 2), (-1, 3)])


class Things:
    """A class that is none of the interface."""


def itself():
    """A list that holds itself."""
    found = []
    found.append(found)
    return found


def odd_values():
    """Values of the built-in types, and of the interface, none of which is an integer from 1 on or a name."""
    return [
        None, True, False, 0, -1, -10 ** 30, 10 ** 30, 1j, "", "Leaf", "leafleafl", "le af", "\u00e4", "le\n", "l1",
        b"", b"leaf", bytearray(b"leaf"), memoryview(b"leaf"), [], (), {}, [None], (None,), {"leaf": 1}, ["leaf"],
        ("leaf",), set(), {"leaf"}, frozenset(), range(0), range(3), slice(1), object(), Things(), Things, int, len,
        Ellipsis, NotImplemented, iter([]), iter(()), zip(), map(len, []), (x for x in ()), itself(), (itself(),),
        Exception("leaf"), NoKind("leaf"), sums_grammar(), [[]], ((),), [()], "0", "1",
    ]


def no_integers():
    """The odd values that are no integers."""
    return [thing for thing in odd_values() if not isinstance(thing, int) or isinstance(thing, bool)]


def random_number(dice):
    """An integer, at times below 0 or very large."""
    return dice.choice([0, 1, 2, -1, dice.randrange(256), dice.randrange(-10 ** 30, 10 ** 30)])


def random_tree(grammar, kind, many, seed):
    """A tree of a kind with some steps more than the least, which share their children."""
    dice = random.Random(seed)
    steps = []
    kinds = []
    while len(steps) < many or kinds[-1] != kind:
        open_rules = [rule for rule in grammar.rules if all(child in kinds for child in rule[2])]
        rule = dice.choice(open_rules)
        places = tuple(dice.choice([at for at, have in enumerate(kinds) if have == child]) for child in rule[2])
        steps.append((rule[0], places, tuple(random_number(dice) for _ in range(rule[3]))))
        kinds.append(rule[1])
    return steps


def random_context(grammar, hole, many, seed):
    """A context with a hole of a kind, with some steps that the root does not use."""
    dice = random.Random(seed)
    steps = random_tree(grammar, grammar.top, many, seed)
    rules = {rule[0]: rule for rule in grammar.rules}
    kinds = [rules[step[0]][1] for step in steps]
    steps.append(("", hole))
    kinds.append(hole)
    top = len(steps) - 1
    for _ in range(many):
        ways = [(rule, side) for rule in grammar.rules for side, child in enumerate(rule[2]) if child == kinds[top]]
        if not ways:
            break
        rule, side = dice.choice(ways)
        holding = holders(steps)
        picks = [[at for at in range(top) if kinds[at] == child and at not in holding] for child in rule[2]]
        if any(not pick for at, pick in enumerate(picks) if at != side):
            continue
        places = tuple(top if at == side else dice.choice(picks[at]) for at in range(len(picks)))
        steps.append((rule[0], places, tuple(random_number(dice) for _ in range(rule[3]))))
        kinds.append(rule[1])
        top = len(steps) - 1
    return steps


def holders(steps):
    """The places of the steps in whose trees the hole stands."""
    found = []
    for at, step in enumerate(steps):
        if len(step) == 2 or any(place in found for place in step[1]):
            found.append(at)
    return found
