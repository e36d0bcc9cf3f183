"""Grammars, trees and odd values that several tests use."""

import random

from leastattr.codes import Code
from leastattr.documents import Document
from leastattr.errors import NoKind
from leastattr.grammars import Grammar

SUMS_KINDS = [("leaf", ("n",)), ("row", ("size", "total"))]
SUMS_RULES = [
    ("one", "leaf", (), 1, (((1, (), 0),),)),
    ("nil", "row", (), 0, ((), ())),
    ("put", "row", ("row", "leaf"), 0, (
        ((1, (0, -1), -1), (1, (-1, -1), -1)),
        ((1, (1, -1), -1), (1, (-1, 0), -1)),
    )),
]
SUMS_ANSWERS = [(0, 2, 1)]

FIVE = [("nil", (), ()), ("one", (), (5,)), ("put", (0, 1), ()), ("put", (2, 1), ())]
LOOP = [("", "row"), ("one", (), (7,)), ("put", (0, 1), ())]


def sums_grammar(width=8):
    """The grammar `sums` of point 1."""
    return Grammar(width, SUMS_KINDS, SUMS_RULES, "row", SUMS_ANSWERS)


def nodes_grammar(width=8):
    """The grammar `nodes` of stage 4: n counts the nodes, m the leaves."""
    return Grammar(width, [("t", ("n", "m"))], [
        ("leaf", "t", (), 0, (((1, (), -1),), ((1, (), -1),))),
        ("join", "t", ("t", "t"), 0, (
            ((1, (0, -1), -1), (1, (-1, 0), -1), (1, (-1, -1), -1)),
            ((1, (1, -1), -1), (1, (-1, 1), -1)),
        )),
    ], "t", [(0, 1, 0)])


def places_grammar(width=8):
    """The grammar `places` of stage 4, whose joins multiply attributes of both children."""
    return Grammar(width, [("t", ("n", "s", "p"))], [
        ("leaf", "t", (), 1, (((1, (), -1),), ((1, (), 0),), ())),
        ("join", "t", ("t", "t"), 0, (
            ((1, (0, -1), -1), (1, (-1, 0), -1)),
            ((1, (1, -1), -1), (1, (-1, 1), -1)),
            ((1, (2, -1), -1), (1, (-1, 2), -1), (1, (0, 1), -1)),
        )),
    ], "t", [(0, 0, 0, 1)])


def mixed_grammar(width=8):
    """Two kinds, rules with 0 to 2 children and 0 to 2 numbers, terms that multiply all of them."""
    return Grammar(width, [("a", ("x", "y")), ("b", ("z",))], [
        ("la", "a", (), 2, (((3, (), 0), (1, (), -1)), ((-1, (), 1),))),
        ("lb", "b", (), 0, (((5, (), -1),),)),
        ("ua", "a", ("b",), 1, (((2, (0,), 0), (1, (-1,), 0)), ((1, (0,), -1), (7, (-1,), -1)))),
        ("ub", "b", ("a",), 2, (((1, (0,), 0), (3, (1,), 1), (1, (-1,), -1)),)),
        ("ja", "a", ("a", "b"), 1, (
            ((1, (0, 0), 0), (2, (1, -1), -1), (1, (-1, 0), -1)),
            ((3, (1, 0), -1), (1, (0, -1), 0), (9, (-1, -1), -1)),
        )),
        ("jb", "b", ("a", "a"), 0, (((1, (0, 1), -1), (1, (1, 0), -1), (-2, (1, 1), -1), (4, (0, -1), -1)),)),
    ], "b", [(1, 2), (-1, 3)])


def lists_grammar(answer=(0, 0, 1)):
    """The grammar `lists` of stage 9, with another answer if one is told."""
    return Grammar(8, [("list", ("len", "sum"))], [
        ("nil", "list", (), 0, ((), ())),
        ("cons", "list", ("list",), 1, (((1, (0,), -1), (1, (-1,), -1)), ((1, (1,), -1), (1, (-1,), 0)))),
    ], "list", [answer])


def bits_grammar(width=6):
    """The grammar `bits` of point 61, whose only attribute is always 0 or 1."""
    return Grammar(width, [("b", ("x",))], [
        ("zero", "b", (), 0, ((),)),
        ("one", "b", (), 0, (((1, (), -1),),)),
        ("both", "b", ("b", "b"), 0, (((1, (0, 0), -1),),)),
    ], "b", [(0, 1)])


def once_grammar():
    """The grammar `once` of stage 8, which answers 2 a for a leaf with the number a."""
    return Grammar(8, [("x", ("a",))], [("leaf", "x", (), 1, (((1, (), 0),),))], "x", [(0, 2)])


def twice_code():
    """The code `twice` of stage 8, right for `once`, whose register is 2 a."""
    return Code(8, [1], [(0, (), 1, (((2, (), 0),),))], 0, [(0, 1)])


def both_grammar():
    """The grammar `both` of stage 8, which answers 2 a b."""
    return Grammar(2, [("bit", ("a",)), ("pair", ("p",))], [
        ("zero", "bit", (), 0, ((),)),
        ("one", "bit", (), 0, (((1, (), -1),),)),
        ("times", "pair", ("bit", "bit"), 0, (((2, (0, 0), -1),),)),
    ], "pair", [(0, 1)])


def wide_grammar(width, seed):
    """Five kinds of three attributes, twelve rules of up to two children, two numbers and twelve terms a sum."""
    dice = random.Random(seed)
    rules = []
    for at, name in enumerate("abcdefghijkl"):
        children = tuple(dice.choice("abcde") for _ in range(2)) if at > 4 else ()
        values = tuple(tuple((dice.randrange(2 ** width), tuple(dice.choice((-1, 0, 1, 2)) for _ in children),
                              dice.choice((-1, 0, 1))) for _ in range(12)) for _ in range(3))
        rules.append(("r" + name, "abcde"[at % 5], children, 2, values))
    answers = [tuple(dice.randrange(2 ** width) for _ in range(4)) for _ in range(4)]
    return Grammar(width, [(name, ("x", "y", "z")) for name in "abcde"], rules, "a", answers)


def sums_code():
    """The code over `sums` of point 40, with one register for each kind."""
    return Code(8, [1, 1], [
        (0, (), 1, (((1, (), 0),),)),
        (1, (), 0, ((),)),
        (1, (1, 0), 0, (((1, (0, -1), -1), (1, (-1, 0), -1), (2, (-1, -1), -1)),)),
    ], 1, [(0, 1)])


def codes_not_over_sums():
    """Tuples (rule, code): codes that do not stand over `sums`, and the rule that is told of them."""
    one, nil, put = sums_code().rules
    rules = [one, nil, put]
    found = [
        (-1, Code(9, [1, 1], rules, 1, [(0, 1)])),
        (-1, Code(8, [1, 1, 1], rules, 1, [(0, 1)])),
        (-1, Code(8, [1, 1], rules[:2], 1, [(0, 1)])),
        (-1, Code(8, [1, 1], rules + rules[:1], 1, [(0, 1)])),
        (-1, Code(8, [1, 1], rules, 1, [(0, 1), (0, 1)])),
        (-1, Code(8, [1, 1], rules, 0, [(0, 1)])),
        (-1, Code(8, [1, 1], [nil, put, one], 0, [(0, 1)])),
        (1, Code(8, [1, 1], [one, put, nil], 1, [(0, 1)])),
        (0, Code(8, [1, 1], [nil, put, one], 1, [(0, 1)])),
    ]
    for at, rule in ((0, (1, (), 1, ((),))), (0, (0, (0,), 1, ((),))), (0, (0, (), 0, ((),))),
                     (1, (0, (), 0, ((),))), (1, (1, (), 1, ((),))), (2, (1, (0, 1), 0, ((),))),
                     (2, (1, (1, 1), 0, ((),))), (2, (1, (1,), 0, ((),))), (2, (0, (1, 0), 0, ((),))),
                     (2, (1, (1, 0), 2, ((),)))):
        found.append((at, Code(8, [1, 1], rules[:at] + [rule] + rules[at + 1:], 1, [(0, 1)])))
    return found


def bare_grammar(width=8):
    """Kinds without trees and without contexts.

    top has trees, none has not, lone has trees and no context to top; pair needs a tree of none, and so does back.
    """
    return Grammar(width, [("top", ("x",)), ("none", ("y", "z")), ("lone", ("u",))], [
        ("leaf", "top", (), 1, (((1, (), 0),),)),
        ("pair", "top", ("none", "top"), 0, (((1, (0, 0), -1), (3, (1, -1), -1)),)),
        ("back", "none", ("none",), 0, (((1, (0,), -1),), ((1, (1,), -1), (1, (-1,), -1)))),
        ("twin", "none", ("none", "top"), 0, (((1, (0, 0), -1),), ())),
        ("only", "lone", (), 2, (((1, (), 0), (2, (), 1)),)),
        ("wrap", "lone", ("top",), 0, (((5, (0,), -1),),)),
        ("void", "lone", ("none", "none"), 0, (((5, (0, 1), -1),),)),
    ], "top", [(7, 1)])


DOUBLING_NODES = 2 ** 15 - 1


def doubling_grammar(width=1):
    """Fifteen attributes, each of which is 1 only for a tree of two equal trees with a 1 in the one before.

    So the smallest tree whose last attribute, z of e, is not 0 has 2 ** 15 - 1 nodes.
    """
    names = "abcde"
    rules = [("leaf", "a", (), 0, (((1, (), -1),), (), ()))]
    for name in names:
        rules.append(("on" + name, name, (name, name), 0, ((), ((1, (0, 0), -1),), ((1, (1, 1), -1),))))
    for name, later in zip(names, names[1:]):
        rules.append(("to" + later, later, (name, name), 0, (((1, (2, 2), -1),), (), ())))
    return Grammar(width, [(name, ("x", "y", "z")) for name in names], rules, "e", [(0, 0, 0, 1)])


def late_grammar():
    """A grammar whose smallest tree with an answer other than 0 has 10 nodes, with a child of which x is 4.

    The trees of kind a with x 2 and 1 make this child needless for the hull, but have more nodes; and all of them
    have fewer nodes than the only tree of kind b.
    """
    return Grammar(3, [("a", ("x",)), ("b", ("y",)), ("c", ("u",)), ("d", ("v",)), ("t", ("z",))], [
        ("leaf", "c", (), 0, (((1, (), -1),),)),
        ("zero", "a", (), 0, ((),)),
        ("four", "a", ("c",), 0, (((4, (0,), -1),),)),
        ("two", "a", ("c", "c"), 0, (((2, (0, -1), -1),),)),
        ("wide", "d", ("c", "c"), 0, (((1, (0, 0), -1),),)),
        ("one", "a", ("c", "d"), 0, (((1, (0, 0), -1),),)),
        ("wider", "b", ("d", "d"), 0, (((1, (0, 0), -1),),)),
        ("pair", "t", ("a", "b"), 0, (((1, (0, 0), -1),),)),
    ], "t", [(0, 1)])


def doubled_leaves(many):
    """A tree of `nodes` with so many steps, each join with the step before it as both of its children."""
    return [("leaf", (), ())] + [("join", (place, place), ()) for place in range(many - 1)]


def changed(thing, path, new):
    """A nested tuple with another value at a path of indexes."""
    if not path:
        return new
    items = list(thing)
    items[path[0]] = changed(items[path[0]], path[1:], new)
    return tuple(items)


class Things:
    """A class that is none of the interface."""


def itself():
    """A list that holds itself."""
    found = []
    found.append(found)
    return found


def odd_values():
    """Values of the built-in types, and of the interface, none of which is an integer from 1 on or a name."""
    return [
        None, True, False, 0, -1, -10 ** 30, 10 ** 30, 1j, "", "Leaf", "leafleafl", "le af", "\u00e4", "le\n", "l1",
        b"", b"leaf", bytearray(b"leaf"), memoryview(b"leaf"), [], (), {}, [None], (None,), {"leaf": 1}, ["leaf"],
        ("leaf",), set(), {"leaf"}, frozenset(), range(0), range(3), slice(1), object(), Things(), Things, int, len,
        Ellipsis, NotImplemented, iter([]), iter(()), zip(), map(len, []), (x for x in ()), itself(), (itself(),),
        Exception("leaf"), NoKind("leaf"), sums_grammar(), twice_code(), Grammar, Code, [[]], ((),), [()], "0", "1",
        Document(once_grammar(), [("leaf", (), (1,))]),
    ]


def no_integers():
    """The odd values that are no integers."""
    return [thing for thing in odd_values() if not isinstance(thing, int) or isinstance(thing, bool)]


def tree_index(thing):
    """What NoTree and NoContext tell of an odd value that is handed in for a tree or a context."""
    return 0 if isinstance(thing, (list, tuple)) and thing else -1


def random_number(dice):
    """An integer, at times below 0 or very large."""
    return dice.choice([0, 1, 2, -1, dice.randrange(256), dice.randrange(-10 ** 30, 10 ** 30)])


def random_tree(grammar, kind, many, seed):
    """A tree of a kind with some steps more than the least, which share their children."""
    dice = random.Random(seed)
    steps = []
    kinds = []
    while len(steps) < many or kinds[-1] != kind:
        open_rules = [rule for rule in grammar.rules if all(child in kinds for child in rule[2])]
        rule = dice.choice(open_rules)
        places = tuple(dice.choice([at for at, have in enumerate(kinds) if have == child]) for child in rule[2])
        steps.append((rule[0], places, tuple(random_number(dice) for _ in range(rule[3]))))
        kinds.append(rule[1])
    return steps


def random_context(grammar, hole, many, seed):
    """A context with a hole of a kind, with some steps that the root does not use."""
    dice = random.Random(seed)
    steps = random_tree(grammar, grammar.top, many, seed)
    rules = {rule[0]: rule for rule in grammar.rules}
    kinds = [rules[step[0]][1] for step in steps]
    steps.append(("", hole))
    kinds.append(hole)
    top = len(steps) - 1
    for _ in range(many):
        ways = [(rule, side) for rule in grammar.rules for side, child in enumerate(rule[2]) if child == kinds[top]]
        if not ways:
            break
        rule, side = dice.choice(ways)
        holding = holders(steps)
        picks = [[at for at in range(top) if kinds[at] == child and at not in holding] for child in rule[2]]
        if any(not pick for at, pick in enumerate(picks) if at != side):
            continue
        places = tuple(top if at == side else dice.choice(picks[at]) for at in range(len(picks)))
        steps.append((rule[0], places, tuple(random_number(dice) for _ in range(rule[3]))))
        kinds.append(rule[1])
        top = len(steps) - 1
    return steps


def holders(steps):
    """The places of the steps in whose trees the hole stands."""
    found = []
    for at, step in enumerate(steps):
        if len(step) == 2 or any(place in found for place in step[1]):
            found.append(at)
    return found


def nodes_of(steps):
    """How many nodes a tree or context has written out, straight from points 9 and 11; a hole is none."""
    counts = []
    for step in steps:
        counts.append(0 if len(step) == 2 else 1 + sum(counts[place] for place in step[1]))
    return counts[-1]


def are_tidy(steps):
    """Whether steps are a list without two equal ones and without any that the root does not use (point 4)."""
    used = [len(steps) - 1]
    for place in used:
        if len(steps[place]) == 3:
            used += sorted(set(steps[place][1]) - set(used))
    plain = all(type(step) is tuple and (len(step) == 2 or type(step[1]) is type(step[2]) is tuple) for step in steps)
    return type(steps) is list and plain and len(set(steps)) == len(steps) == len(used)
