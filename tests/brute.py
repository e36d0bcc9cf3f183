"""Small grammars in which all attributes of trees, and all that contexts ask, are tried one by one.

Nothing here uses the package but Grammar and Code themselves.
"""

import heapq
import itertools
import random

from leastattr.codes import Code
from leastattr.grammars import Grammar

LETTERS = "abcdefghijkl"


def elements_of(width, size, rows):
    """The set of all elements of a module."""
    modulus = 2 ** width
    found = {(0,) * size}
    for row in rows:
        multiples = {tuple(factor * number % modulus for number in row) for factor in range(modulus)}
        found = {tuple((a + b) % modulus for a, b in zip(one, other)) for one in found for other in multiples}
    return found


def generators_of(width, elements):
    """How few generators a module has, by how many of its elements are doubles."""
    doubles = {tuple(2 * number % 2 ** width for number in row) for row in elements}
    return (len(elements) // len(doubles)).bit_length() - 1


def all_rows(width, size):
    """All rows of a size."""
    return itertools.product(range(2 ** width), repeat=size)


def product(width, one, other):
    """The product of two rows."""
    return sum(a * b for a, b in zip(one, other)) % 2 ** width


def form_at(form, numbers, width):
    """The value of a form, straight from point 5."""
    return (form[0] + sum(factor * number for factor, number in zip(form[1:], numbers))) % 2 ** width


def minus(width, one, other):
    """What a row has more than another one."""
    return tuple((a - b) % 2 ** width for a, b in zip(one, other))


def sums_at(values, children, numbers, width):
    """What sums come to at these children and numbers, straight from point 6."""
    state = []
    for terms in values:
        total = 0
        for factor, picks, number in terms:
            for child, pick in zip(children, picks):
                factor *= child[pick] if pick >= 0 else 1
            total += factor * (numbers[number] if number >= 0 else 1)
        state.append(total % 2 ** width)
    return tuple(state)


def plain_rules(grammar):
    """The rules of a grammar with indexes of kinds, as a code has them."""
    names = [name for name, _ in grammar.kinds]
    return [(names.index(kind), tuple(names.index(child) for child in children), numbers, values)
            for _, kind, children, numbers, values in grammar.rules]


def all_numbers(width, many):
    """All numbers that may stand at a node."""
    return list(itertools.product(range(2 ** width), repeat=many))


def fewest_nodes(width, kinds, parts):
    """For each kind a dict from what its trees come to, a state for each part, to the fewest nodes of such a tree.

    parts are lists of rules of one shape, as a code has them.
    """
    best = [{} for _ in range(kinds)]
    queue = []

    def offer(at, children):
        kind, _, numbers, _ = parts[0][at]
        nodes = 1 + sum(child[0] for child in children)
        for given in all_numbers(width, numbers):
            state = tuple(sums_at(part[at][3], [child[1][index] for child in children], given, width)
                          for index, part in enumerate(parts))
            if state not in best[kind]:
                heapq.heappush(queue, (nodes, kind, state))

    for at, rule in enumerate(parts[0]):
        if not rule[1]:
            offer(at, ())
    while queue:
        nodes, kind, state = heapq.heappop(queue)
        if state in best[kind]:
            continue
        best[kind][state] = nodes
        for at, rule in enumerate(parts[0]):
            for side, child in enumerate(rule[1]):
                if child != kind:
                    continue
                if len(rule[1]) == 1:
                    offer(at, ((nodes, state),))
                    continue
                for mate, more in list(best[rule[1][1 - side]].items()):
                    offer(at, ((nodes, state), (more, mate)) if side == 0 else ((more, mate), (nodes, state)))
    return best


def trees_of(grammar):
    """For each kind a dict from attributes of its trees to the fewest nodes of a tree that has them."""
    best = fewest_nodes(grammar.width, len(grammar.kinds), [plain_rules(grammar)])
    return [{state[0]: nodes for state, nodes in found.items()} for found in best]


def trees_with(grammar, rules):
    """As trees_of, from pairs of attributes and of what other rules come to."""
    return fewest_nodes(grammar.width, len(grammar.kinds), [plain_rules(grammar), list(rules)])


def asked_of(grammar, trees):
    """For each kind a dict from linear parts of answers in contexts to the fewest nodes of such a context."""
    width = grammar.width
    sizes = [len(attributes) for _, attributes in grammar.kinds]
    steps = [step for rule in plain_rules(grammar) for step in steps_around(width, sizes, rule, trees)]
    best = [{} for _ in sizes]
    top = [name for name, _ in grammar.kinds].index(grammar.top)
    queue = [(0, top, answer[1:]) for answer in grammar.answers]
    heapq.heapify(queue)
    while queue:
        nodes, kind, row = heapq.heappop(queue)
        if row in best[kind]:
            continue
        best[kind][row] = nodes
        for outer, child, more, columns in steps:
            if outer == kind:
                inner = tuple(product(width, row, column) for column in columns)
                heapq.heappush(queue, (nodes + more, child, inner))
    return best


def steps_around(width, sizes, rule, trees):
    """Tuples (kind, child, nodes, columns): a step around a hole, and what it makes of each attribute of the hole."""
    kind, children, numbers, values = rule
    found = {}
    for side, child in enumerate(children):
        mates = [(None, 0)] if len(children) == 1 else list(trees[children[1 - side]].items())
        for mate, more in mates:
            for given in all_numbers(width, numbers):
                def filled(inside):
                    states = [inside if at == side else mate for at in range(len(children))]
                    return sums_at(values, states, given, width)
                base = filled((0,) * sizes[child])
                units = [tuple(int(at == place) for at in range(sizes[child])) for place in range(sizes[child])]
                columns = tuple(minus(width, filled(unit), base) for unit in units)
                key = (kind, child, columns)
                found[key] = min(found.get(key, 1 + more), 1 + more)
    return [(kind, child, nodes, columns) for (kind, child, columns), nodes in found.items()]


def small_sum(dice, width, sizes, numbers, most=3):
    """A sum of some terms."""
    return tuple((dice.randrange(2 ** width), tuple(dice.choice([-1] + list(range(size)) * 2) for size in sizes),
                  dice.choice([-1] + list(range(numbers)) * 2)) for _ in range(dice.randrange(most + 2)))


def small_grammar(seed):
    """A grammar in which all attributes can be tried; some of its kinds may have no trees, or no contexts."""
    dice = random.Random(seed)
    width = dice.choice([1, 1, 2, 2, 3])
    names = "abc"[:dice.randrange(1, 4)]
    most = {1: 3, 2: 2, 3: 1}[width]
    sizes = {name: dice.randrange(1, most + 1) for name in names}
    rules = []
    for at in range(dice.randrange(2, 7)):
        kind = names[at] if at < len(names) and dice.randrange(4) else dice.choice(names)
        children = tuple(dice.choice(names) for _ in range(dice.randrange(3))) if at >= dice.randrange(4) else ()
        numbers = dice.choice([0, 0, 1]) if width > 1 else dice.randrange(3)
        values = tuple(small_sum(dice, width, [sizes[child] for child in children], numbers)
                       for _ in range(sizes[kind]))
        rules.append(("r" + LETTERS[at], kind, children, numbers, values))
    top = dice.choice(names)
    answers = [tuple(dice.randrange(2 ** width) for _ in range(sizes[top] + 1)) for _ in range(dice.randrange(1, 3))]
    return Grammar(width, [(name, tuple("xyz"[:sizes[name]])) for name in names], rules, top, answers)


def joining_grammar(seed):
    """A grammar of one kind with few leaves, rules that lead on slowly, and a rule "join" of two children.

    What the join lacks to change places, to be bracketed otherwise or to keep a doubled child may show late.
    """
    dice = random.Random(seed)
    width, size = dice.choice([(1, 2), (1, 3), (2, 1), (2, 2), (3, 1), (4, 1)])
    numbers = dice.choice([0, 0, 0, 1]) if width < 4 else 0

    def part(picks):
        return (dice.choice([1, 1, 2 ** (width - 1), dice.randrange(2 ** width)]), picks,
                dice.choice([-1] + list(range(numbers))))
    rules = [("leaf", "t", (), 0, tuple(((dice.choice([0, 0, 1]), (), -1),) for _ in range(size)))]
    if dice.randrange(2):
        rules.append(("up", "t", ("t",), 0, tuple(((1, (at,), -1),) + small_sum(dice, width, [size], 0, 0)
                                                  for at in range(size))))
    values = []
    for at in range(size):
        both = dice.choice([[(1, (at, -1), -1), (1, (-1, at), -1)], [(1, (at, at), -1)], [(1, (at, -1), -1)]])
        more = [part((dice.randrange(-1, size), dice.randrange(-1, size))) for _ in range(dice.choice([0, 0, 1, 2]))]
        values.append(tuple(both + more))
    rules.append(("join", "t", ("t", "t"), numbers, tuple(values)))
    answers = [tuple(dice.choice([0, 1, dice.randrange(2 ** width)]) for _ in range(size + 1))]
    return Grammar(width, [("t", tuple("xyz"[:size]))], rules, "t", answers)


def copying_code(grammar):
    """The code over a grammar whose registers are the attributes."""
    names = [name for name, _ in grammar.kinds]
    counts = [len(attributes) for _, attributes in grammar.kinds]
    return Code(grammar.width, counts, plain_rules(grammar), names.index(grammar.top), grammar.answers)


def changed_code(code, seed):
    """A code with another factor, another term or another answer at one or two places."""
    dice = random.Random(seed)
    rules = [list(rule) for rule in code.rules]
    answers = list(code.answers)
    for _ in range(dice.randrange(1, 3)):
        at = dice.randrange(len(rules) + 1)
        if at == len(rules) or not rules[at][3]:
            answer = list(answers[0])
            answer[dice.randrange(len(answer))] += dice.randrange(1, 2 ** code.width)
            answers[0] = tuple(answer)
            continue
        values = list(rules[at][3])
        place = dice.randrange(len(values))
        sizes = [code.counts[child] for child in rules[at][1]]
        values[place] += small_sum(dice, code.width, sizes, rules[at][2], 2)
        rules[at][3] = tuple(values)
    return Code(code.width, code.counts, [tuple(rule) for rule in rules], code.top, answers)


def padded_code(code, extra, seed, most=4):
    """A code that answers as another one, with more registers behind those of each kind, reckoned by any sums."""
    dice = random.Random(seed)
    counts = [many + extra for many in code.counts]
    rules = []
    for kind, children, numbers, values in code.rules:
        sizes = [counts[child] for child in children]
        more = tuple(small_sum(dice, code.width, sizes, numbers, most) for _ in range(extra))
        rules.append((kind, children, numbers, values + more))
    return Code(code.width, counts, rules, code.top, [answer + (0,) * extra for answer in code.answers])


def random_code(grammar, seed, most=2):
    """A code over a grammar with few registers and any sums."""
    dice = random.Random(seed)
    counts = [dice.randrange(most + 1) for _ in grammar.kinds]
    rules = [(kind, children, numbers, tuple(small_sum(dice, grammar.width, [counts[child] for child in children],
                                                       numbers) for _ in range(counts[kind])))
             for kind, children, numbers, _ in plain_rules(grammar)]
    top = [name for name, _ in grammar.kinds].index(grammar.top)
    answers = [tuple(dice.randrange(2 ** grammar.width) for _ in range(counts[top] + 1)) for _ in grammar.answers]
    return Code(grammar.width, counts, rules, top, answers)
