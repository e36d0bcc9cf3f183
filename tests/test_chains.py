"""Stage 14: points 73 to 76, judged by putting loops around trees one by one until what there is comes back."""

import copy
import itertools
import random
import unittest

from leastattr.chains import (chain_answers, chain_nodes, chain_value, comes_back, first_time, loop_order, parting)
from leastattr.errors import NoContext, NoCount, NoForm, NotTop, NoTree, WrongKind
from leastattr.grammars import Grammar
from leastattr.hulls import spanning_trees
from leastattr.trees import answers_of, context_map, count_nodes, fill, kinds_of_context, value
from leastattr.wants import told_apart
from brute import asked_of, form_at, product, small_grammar, trees_of
from samples import (FIVE, are_tidy, bare_grammar, doubled_leaves, lists_grammar, mixed_grammar, no_integers,
                     nodes_grammar, odd_values, places_grammar, random_context, random_tree, sums_grammar, tree_index)

LOOP = [("", "row"), ("one", (), (3,)), ("put", (0, 1), ())]
NIL = [("nil", (), ())]
AROUND = [("nil", (), ()), ("", "leaf"), ("put", (0, 1), ())]
SEEDS = range(120)


def map_grammar(width, rows, answer, start):
    """A grammar of one kind whose only loops are an affine map, gone again and again from a leaf."""
    size = len(rows)
    values = tuple(((row[0], (-1,), -1),) + tuple((row[1 + at], (at,), -1) for at in range(size)) for row in rows)
    return Grammar(width, [("k", ("x", "y", "z")[:size])], [
        ("leaf", "k", (), 0, tuple(((number, (), -1),) for number in start)), ("up", "k", ("k",), 0, values),
    ], "k", [answer])


def random_map(dice, width, size):
    """An affine map, some of whose numbers are 0, 1 or even."""
    def number():
        own = dice.randrange(2 ** width)
        return dice.choice([0, 1, own, 2 * own, 4 * own, 4 * own + 1]) % 2 ** width
    return [tuple(number() for _ in range(size + 1)) for _ in range(size)]


def map_worlds(seeds):
    """Grammars of map_grammar with their widths and maps."""
    for seed in seeds:
        dice = random.Random(seed)
        width = dice.choice([1, 2, 2, 3, 3, 4])
        size = dice.choice([1, 2, 3]) if width < 4 else dice.choice([1, 2])
        rows = random_map(dice, width, size)
        answer = tuple(dice.choice([0, 1, dice.randrange(2 ** width)]) for _ in range(size + 1))
        start = [dice.randrange(2 ** width) for _ in range(size)]
        yield map_grammar(width, rows, answer, start), dice


UP = [("", "k"), ("up", (0,), ())]
LEAF = [("leaf", (), ())]


def next_state(grammar, forms, state):
    """What a loop makes of a state."""
    return tuple(form_at(form, state, grammar.width) for form in forms)


def heard(grammar, rows, state):
    """What all contexts tell of a state."""
    return tuple(product(grammar.width, row, state) for row in rows)


def asked_at(grammar, kind):
    """What all contexts ask of a kind."""
    names = [name for name, _ in grammar.kinds]
    return list(asked_of(grammar, trees_of(grammar))[names.index(kind)])


def small_loops(seeds):
    """Small grammars with random loops of a kind and trees of it."""
    for seed in seeds:
        grammar, dice = small_grammar(seed), random.Random(seed)
        trees = trees_of(grammar)
        names = [name for name, _ in grammar.kinds]
        if not trees[names.index(grammar.top)]:
            continue
        for name, states in zip(names, trees):
            if not states:
                continue
            for _ in range(6):
                context = random_context(grammar, name, dice.randrange(1, 5), dice.random())
                if kinds_of_context(grammar, context) == (name, name):
                    yield grammar, name, context, random_tree(grammar, name, dice.randrange(1, 4), dice.random()), dice


def comes_back_by(grammar, context, tree):
    """What point 74 says, one time after the other."""
    rows = asked_at(grammar, kinds_of_context(grammar, context)[0])
    forms = context_map(grammar, context)
    state, seen = value(grammar, tree), {}
    while heard(grammar, rows, state) not in seen:
        seen[heard(grammar, rows, state)] = len(seen)
        state = next_state(grammar, forms, state)
    ahead = seen[heard(grammar, rows, state)]
    return ahead, len(seen) - ahead


def order_by(grammar, context):
    """What loop_order of point 75 says, one time after the other for all trees."""
    kind = kinds_of_context(grammar, context)[0]
    rows = asked_at(grammar, kind)
    names = [name for name, _ in grammar.kinds]
    own = {state: state for state in trees_of(grammar)[names.index(kind)]}
    forms = context_map(grammar, context)
    step = {state: next_state(grammar, forms, state) for state in own}
    for times in range(1, 400):
        own = {state: step[now] for state, now in own.items()}
        if all(heard(grammar, rows, state) == heard(grammar, rows, now) for state, now in own.items()):
            return times
    return None


def chain_of(grammar, context, tree, times):
    """The tree of a chain with a step for each step of each loop."""
    for _ in range(times):
        tree = fill(grammar, context, tree)
    return tree


class ChainTest(unittest.TestCase):

    def test_against_filled_contexts(self):
        for seed in range(40):
            grammar = (mixed_grammar(6), sums_grammar(), places_grammar(64))[seed % 3]
            kind = grammar.top
            context = random_context(grammar, kind, 6, seed)
            if kinds_of_context(grammar, context) != (kind, kind):
                continue
            tree = random_tree(grammar, kind, 4, seed)
            for times in (0, 1, 2, 3, 7, 20):
                whole = chain_of(grammar, context, tree, times)
                self.assertEqual(chain_value(grammar, context, tree, times), value(grammar, whole))
                self.assertEqual(chain_answers(grammar, context, tree, times), answers_of(grammar, whole))
                self.assertEqual(chain_nodes(grammar, context, tree, times), count_nodes(grammar, whole))
                self.assertIs(type(chain_value(grammar, tuple(context), tuple(tree), times)), tuple)

    def test_the_examples(self):
        sums = sums_grammar()
        self.assertEqual(chain_value(sums, LOOP, NIL, 10 ** 30), (0, 0))
        self.assertEqual(chain_answers(sums, LOOP, NIL, 10 ** 30), [0])
        self.assertEqual(chain_nodes(sums, LOOP, NIL, 10 ** 30), 2 * 10 ** 30 + 1)
        self.assertEqual(chain_answers(sums, LOOP, NIL, 4), [20])

    def test_0_times_and_the_hole_alone(self):
        sums = sums_grammar()
        for times in (0, 1, 10 ** 30):
            self.assertEqual(chain_value(sums, [("", "row")], FIVE, times), (2, 10))
            self.assertEqual(chain_nodes(sums, [("", "row")], FIVE, times), 5)
            self.assertEqual(chain_value(sums, [("", "leaf")], [("one", (), (-1,))], times), (255,))
        self.assertEqual(chain_nodes(sums, LOOP, FIVE, 0), 5)
        self.assertEqual(chain_value(sums, LOOP, FIVE, 0), (2, 10))

    def test_many_times_at_width_64(self):
        sums = sums_grammar(64)
        for times in (10 ** 30, 10 ** 30 + 7, 2 ** 64, 2 ** 64 - 1, 10 ** 300):
            self.assertEqual(chain_value(sums, LOOP, NIL, times), (times % 2 ** 64, 3 * times % 2 ** 64))
        dice = random.Random(1)
        for _ in range(10):
            rows = random_map(dice, 64, 3)
            grammar = map_grammar(64, rows, (0, 1, 0, 0), (5, 6, 7))
            one, other = dice.randrange(10 ** 30), dice.randrange(10 ** 30)
            first = chain_value(grammar, UP, LEAF, one)
            again = map_grammar(64, rows, (0, 1, 0, 0), first)
            self.assertEqual(chain_value(again, UP, LEAF, other), chain_value(grammar, UP, LEAF, one + other))

    def test_places_many_times(self):
        # p of a chain of leaves of number 1 is 0 + 1 + 2 + .. .
        places = places_grammar(64)
        loop = [("", "t"), ("leaf", (), (1,)), ("join", (0, 1), ())]
        many = 10 ** 30
        self.assertEqual(chain_value(places, loop, [("leaf", (), (1,))], many),
                         ((many + 1) % 2 ** 64, (many + 1) % 2 ** 64, many * (many + 1) // 2 % 2 ** 64))

    def test_nodes_of_loops_and_trees_of_2000_steps(self):
        nodes = nodes_grammar(64)
        tree = doubled_leaves(2000)
        loop = doubled_leaves(1998) + [("", "t"), ("join", (1997, 1998), ())]
        self.assertEqual(chain_nodes(nodes, loop, tree, 10 ** 30), 2 ** 2000 - 1 + 10 ** 30 * 2 ** 1998)
        self.assertEqual(chain_nodes(nodes, loop, tree, 0), 2 ** 2000 - 1)
        self.assertEqual(chain_value(nodes, loop, tree, 10 ** 30)[0], 2 ** 64 - 1)

    def test_steps_that_the_root_does_not_use(self):
        loop = [("one", (), (8,)), ("", "row"), ("one", (), (3,)), ("put", (1, 2), ())]
        self.assertEqual(chain_nodes(sums_grammar(), loop, FIVE + NIL, 3), 7)
        self.assertEqual(chain_value(sums_grammar(), loop, FIVE + NIL, 3), (3, 9))

    def test_kinds_without_contexts(self):
        bare = bare_grammar()
        loop = [("", "lone")]
        tree = [("only", (), (1, 2))]
        self.assertEqual(chain_value(bare, loop, tree, 9), (5,))
        with self.assertRaises(NotTop) as caught:
            chain_answers(bare, loop, tree, 9)
        self.assertEqual(caught.exception.kind, "lone")


class ComesBackTest(unittest.TestCase):

    def test_against_all_times(self):
        told = set()
        for grammar, dice in map_worlds(SEEDS):
            found = comes_back(grammar, UP, LEAF)
            self.assertEqual(found, comes_back_by(grammar, UP, LEAF))
            self.assertIs(type(found), tuple)
            told.add(found)
        self.assertTrue(max(ahead for ahead, _ in told) >= 4, told)
        self.assertTrue({1, 2, 3, 4, 6, 7, 8} <= {period for _, period in told}, told)

    def test_small_grammars(self):
        told = set()
        for grammar, _, context, tree, _ in small_loops(SEEDS):
            found = comes_back(grammar, context, tree)
            self.assertEqual(found, comes_back_by(grammar, context, tree))
            told.add(found)
        self.assertTrue(told >= {(0, 1), (1, 1), (0, 2), (2, 1), (1, 2)}, told)

    def test_the_example(self):
        self.assertEqual(comes_back(sums_grammar(), LOOP, NIL), (0, 256))
        self.assertEqual(comes_back(sums_grammar(64), LOOP, NIL), (0, 2 ** 64))
        self.assertEqual(comes_back(sums_grammar(1), LOOP, NIL), (0, 2))

    def test_the_attributes_need_not_come_back(self):
        lists = lists_grammar()
        for number, period in ((0, 1), (1, 256), (2, 128), (128, 2), (256, 1), (3, 256), (96, 8)):
            loop = [("", "list"), ("cons", (0,), (number,))]
            self.assertEqual(comes_back(lists, loop, NIL), (0, period))

    def test_long_ways_at_width_64(self):
        turning = [(1, 0, 1, 0), (0, 0, 0, 1), (0, 1, 1, 0)]
        grammar = map_grammar(64, turning, (0, 1, 2, 3), (1, 0, 0))
        ahead, period = comes_back(grammar, UP, LEAF)
        self.assertEqual(ahead, 0)
        start = chain_value(grammar, UP, LEAF, 0)
        self.assertEqual(chain_value(grammar, UP, LEAF, period), start)
        for prime in (2, 3, 5, 7):
            if period % prime == 0:
                self.assertNotEqual(chain_value(grammar, UP, LEAF, period // prime), start)
        self.assertGreater(period, 2 ** 60)
        dying = map_grammar(64, [(0, 2, 1, 0), (0, 0, 2, 1), (0, 0, 0, 2)], (0, 1, 0, 0), (1, 1, 1))
        self.assertEqual(comes_back(dying, UP, LEAF), (64, 1))
        self.assertEqual(comes_back(map_grammar(64, [(0, 2)], (0, 1), (3,)), UP, LEAF), (64, 1))
        self.assertEqual(comes_back(map_grammar(64, [(0, 5)], (0, 1), (1,)), UP, LEAF), (0, 2 ** 62))
        self.assertEqual(comes_back(map_grammar(64, [(0, 3)], (0, 1), (1,)), UP, LEAF), (0, 2 ** 62))
        self.assertEqual(comes_back(map_grammar(64, [(0, -1)], (0, 1), (1,)), UP, LEAF), (0, 2))
        self.assertEqual(comes_back(map_grammar(64, [(0, 4, 0), (1, 0, 1)], (0, 1, 1), (1, 0)), UP, LEAF),
                         (32, 2 ** 64))

    def test_random_maps_at_width_64(self):
        dice = random.Random(4)
        for _ in range(25):
            grammar = map_grammar(64, random_map(dice, 64, 3), (0, 1, 2, 4), (1, 2, 3))
            ahead, period = comes_back(grammar, UP, LEAF)

            def is_alike(one, other):
                states = [chain_value(grammar, UP, LEAF, times) for times in (one, other)]
                return told_apart(grammar, "k", *states) is None
            self.assertTrue(is_alike(ahead, ahead + period))
            self.assertTrue(ahead == 0 or not is_alike(ahead - 1, ahead - 1 + period))
            for prime in (2, 3, 5, 7, 11, 13):
                self.assertFalse(period % prime == 0 and is_alike(ahead, ahead + period // prime))

    def test_kinds_without_contexts(self):
        grammar = Grammar(8, [("a", ("x",)), ("b", ("y",))], [
            ("leaf", "b", (), 1, (((1, (), 0),),)), ("up", "b", ("b",), 0, (((3, (0,), -1),),)),
        ], "a", [(0, 1)])
        self.assertEqual(comes_back(grammar, [("", "b"), ("up", (0,), ())], [("leaf", (), (1,))]), (0, 1))
        self.assertEqual(comes_back(bare_grammar(), [("", "lone")], [("only", (), (1, 2))]), (0, 1))


class LoopOrderTest(unittest.TestCase):

    def test_against_all_trees_and_times(self):
        told = set()
        for grammar, _ in map_worlds(SEEDS):
            found = loop_order(grammar, UP)
            self.assertEqual(found, order_by(grammar, UP))
            told.add(found)
        for grammar, _, context, _, _ in small_loops(SEEDS):
            found = loop_order(grammar, tuple(context))
            self.assertEqual(found, order_by(grammar, context))
            told.add(found)
        self.assertTrue(told >= {None, 1, 2, 3, 4, 6, 7}, told)

    def test_the_example(self):
        self.assertEqual(loop_order(sums_grammar(), LOOP), 256)

    def test_the_hole_alone(self):
        for name in ("leaf", "row"):
            self.assertEqual(loop_order(sums_grammar(), [("", name)]), 1)

    def test_kinds_without_trees_or_contexts(self):
        bare = bare_grammar()
        self.assertEqual(loop_order(bare, [("", "none"), ("back", (0,), ())]), 1)
        self.assertEqual(loop_order(bare, [("", "lone")]), 1)

    def test_width_64(self):
        self.assertEqual(loop_order(sums_grammar(64), LOOP), 2 ** 64)
        self.assertEqual(loop_order(lists_grammar(), [("", "list"), ("cons", (0,), (64,))]), 4)
        self.assertIsNone(loop_order(map_grammar(64, [(0, 2)], (0, 1), (1,)), UP))
        self.assertEqual(loop_order(map_grammar(64, [(0, 2)], (0, 0), (1,)), UP), 1)
        self.assertEqual(loop_order(map_grammar(64, [(0, 2)], (0, 1), (0,)), UP), 1)

    def test_all_trees_at_once(self):
        # From 0 the loop is idle, from 64 it turns 4 times, from 1 256 times.
        rules = [("leaf", "t", (), 0, ((),)), ("up", "t", ("t",), 0, (((5, (0,), -1),),))]
        for number, order in ((0, 1), (64, 1), (32, 2), (1, 64), (4, 16)):
            more = rules + [("other", "t", (), 0, (((number, (), -1),),))]
            grammar = Grammar(8, [("t", ("x",))], more, "t", [(0, 1)])
            self.assertEqual(loop_order(grammar, [("", "t"), ("up", (0,), ())]), order)

    def test_no_context_then_wrong_kind(self):
        for thing in odd_values():
            for context, index in ((thing, tree_index(thing)), (LOOP + [thing], 3)):
                with self.assertRaises(NoContext) as caught:
                    loop_order(sums_grammar(), context)
                self.assertEqual(caught.exception.index, index)
        with self.assertRaises(WrongKind) as caught:
            loop_order(sums_grammar(), AROUND)
        self.assertEqual(caught.exception.kind, "row")


class PartingTest(unittest.TestCase):

    def check_told(self, grammar, kind, one, other, tree, found):
        self.assertIs(type(found), tuple)
        times, context, index = found
        self.assertTrue(are_tidy(context))
        self.assertEqual(kinds_of_context(grammar, context), (kind, grammar.top))
        told = [answers_of(grammar, fill(grammar, context, chain_of(grammar, loop, tree, times)))[index]
                for loop in (one, other)]
        self.assertNotEqual(*told)

    def test_against_all_times(self):
        told = set()
        last = None
        for grammar, name, context, tree, _ in small_loops(SEEDS):
            rows = asked_at(grammar, name)
            beside = last[2] if last and last[0] == grammar and last[1] == name else context
            for one, other in ((beside, context), (context, [("", name)])):
                states, wish = [value(grammar, tree)] * 2, None
                forms = [context_map(grammar, loop) for loop in (one, other)]
                for times in range(100):
                    if heard(grammar, rows, states[0]) != heard(grammar, rows, states[1]):
                        wish = times
                        break
                    states = [next_state(grammar, *both) for both in zip(forms, states)]
                found = parting(grammar, one, other, tree)
                told.add(wish)
                if wish is None:
                    self.assertIsNone(found)
                else:
                    self.assertEqual(found[0], wish)
                    self.check_told(grammar, name, one, other, tree, found)
            last = (grammar, name, context)
        self.assertTrue(told >= {None, 1, 2}, told)

    def test_up_to_one_time_more_than_there_are_attributes(self):
        told = set()
        for seed in range(150):
            dice = random.Random(seed)
            width, size = dice.choice([(1, 3), (2, 2), (2, 3), (8, 3), (3, 1), (64, 3)])
            one, other = random_map(dice, width, size), random_map(dice, width, size)
            # Maps that differ in few numbers part late.
            other = [row if dice.randrange(3) else more for row, more in zip(one, other)]
            values = [tuple(((row[0], (-1,), -1),) + tuple((row[1 + at], (at,), -1) for at in range(size))
                            for row in rows) for rows in (one, other)]
            start = tuple(((dice.choice([0, 1]), (), -1),) for _ in range(size))
            grammar = Grammar(width, [("k", ("x", "y", "z")[:size])], [
                ("leaf", "k", (), 0, start), ("ua", "k", ("k",), 0, values[0]), ("ub", "k", ("k",), 0, values[1]),
            ], "k", [(0,) + tuple(dice.choice([0, 0, 1]) for _ in range(size))])
            loops = [[("", "k"), (name, (0,), ())] for name in ("ua", "ub")]
            states, wish = [value(grammar, LEAF)] * 2, None
            forms = [context_map(grammar, loop) for loop in loops]
            for times in range(16):
                if told_apart(grammar, "k", *states) is not None:
                    wish = times
                    break
                states = [next_state(grammar, *both) for both in zip(forms, states)]
            found = parting(grammar, *loops, LEAF)
            self.assertEqual(found and found[0], wish)
            told.add((size, wish))
        self.assertTrue({wish for size, wish in told if size == 3} >= {None, 1, 2, 3}, told)

    def test_just_one_time_more_than_there_are_attributes(self):
        for size in (1, 2, 3):
            # 0, 0, 0 goes to 1, 0, 0, to 1, 1, 0, to 1, 1, 1, and only there does the other loop do something else.
            rows = [tuple(int(at == own) for at in range(size + 1)) for own in range(size)]
            other = [tuple(rows[0][:size]) + (rows[0][size] + 1,)] + rows[1:]
            values = [tuple(((row[0], (-1,), -1),) + tuple((row[1 + at], (at,), -1) for at in range(size))
                            for row in both) for both in (rows, other)]
            grammar = Grammar(64, [("k", ("x", "y", "z")[:size])], [
                ("leaf", "k", (), 0, ((),) * size), ("ua", "k", ("k",), 0, values[0]),
                ("ub", "k", ("k",), 0, values[1])], "k", [(0, 1) + (0,) * (size - 1)])
            loops = [[("", "k"), (name, (0,), ())] for name in ("ua", "ub")]
            self.assertEqual(parting(grammar, *loops, LEAF), (size + 1, [("", "k")], 0))

    def test_loops_that_do_the_same(self):
        lists = lists_grammar()
        one, other = [("", "list"), ("cons", (0,), (3,))], [("", "list"), ("cons", (0,), (1,)), ("cons", (1,), (2,))]
        self.assertIsNone(parting(lists, one, other, NIL))
        self.assertEqual(parting(lists, one, [("", "list")], NIL), (1, [("", "list")], 0))
        self.assertIsNone(parting(bare_grammar(), [("", "lone")], [("", "lone")], [("only", (), (1, 2))]))

    def test_errors_in_their_order(self):
        sums = sums_grammar()
        leaf = [("one", (), (1,))]
        for thing in odd_values():
            for context, index in ((thing, tree_index(thing)), (LOOP + [thing], 3)):
                for called in (lambda wrong: parting(sums, wrong, None, None),
                               lambda wrong: parting(sums, LOOP, wrong, None)):
                    with self.assertRaises(NoContext) as caught:
                        called(context)
                    self.assertEqual(caught.exception.index, index)
            with self.assertRaises(NoTree) as caught:
                parting(sums, LOOP, LOOP, thing)
            self.assertEqual(caught.exception.index, tree_index(thing))
        for one, other, tree, kind in ((AROUND, None, None, "row"), (LOOP, AROUND, None, "row"),
                                       (LOOP, [("", "leaf")], None, "leaf"), ([("", "leaf")], LOOP, None, "row"),
                                       (LOOP, LOOP, leaf, "leaf"), ([("", "leaf")], [("", "leaf")], FIVE, "row")):
            with self.assertRaises(WrongKind) as caught:
                parting(sums, one, other, tree)
            self.assertEqual(caught.exception.kind, kind)


class FirstTimeTest(unittest.TestCase):

    def times_of(self, grammar, form, wish, start, many):
        state, forms = value(grammar, LEAF), context_map(grammar, UP)
        for times in range(many):
            if times >= start and (form_at(form, state, grammar.width) - wish) % 2 ** grammar.width == 0:
                return times
            state = next_state(grammar, forms, state)
        return None

    def test_against_all_times(self):
        told = set()
        for grammar, dice in map_worlds(range(120)):
            size = len(grammar.kinds[0][1])
            ahead, period = 20, 2 ** 3 * 84
            for _ in range(4):
                form = tuple(dice.randrange(-9, 99) for _ in range(size + 1))
                wish, start = dice.randrange(-20, 40), dice.choice([0, 0, 1, 5, 50])
                found = first_time(grammar, UP, LEAF, list(form), wish, start=start)
                self.assertEqual(found, self.times_of(grammar, form, wish, start, start + ahead + period))
                told.add(found)
        self.assertTrue(told >= {None, 0, 1, 2, 3, 4, 5, 6, 7, 50}, told)

    def test_wide_maps_time_by_time(self):
        told = []
        for seed in range(60):
            dice = random.Random(seed)
            width, size = dice.choice([6, 7, 8]), dice.choice([1, 2, 3])
            rows = random_map(dice, width, size)
            if seed % 2:
                rows = [tuple(number if at <= own else int(at == own + 1) for at, number in enumerate(row))
                        for own, row in enumerate(rows)]
            start = [dice.randrange(2 ** width) for _ in range(size)]
            grammar = map_grammar(width, rows, (0,) + (1,) * size, start)
            states, seen, state = [], set(), tuple(value(grammar, LEAF))
            while state not in seen:
                seen.add(state)
                states.append(state)
                state = tuple((row[0] + sum(a * b for a, b in zip(row[1:], state))) % 2 ** width for row in rows)
            for _ in range(4):
                form = tuple(dice.randrange(2 ** width) for _ in range(size + 1))
                values = [form_at(form, own, width) for own in states]
                wish = dice.choice([dice.randrange(2 ** width), dice.choice(values), values[-1]])
                told.append(first_time(grammar, UP, LEAF, form, wish))
                self.assertEqual(told[-1], values.index(wish) if wish in values else None)
        self.assertTrue(max(times or 0 for times in told) > 300 and None in told)

    def test_the_example(self):
        sums = sums_grammar()
        self.assertEqual(first_time(sums, LOOP, NIL, (0, 0, 1), 2), 86)
        self.assertEqual(first_time(sums, LOOP, NIL, (0, 0, 1), 2, start=87), 342)
        self.assertEqual(first_time(sums, LOOP, NIL, (0, 0, 1), 2, start=86), 86)

    def test_forms_and_wishes_may_be_any_integers(self):
        sums = sums_grammar()
        self.assertEqual(first_time(sums, LOOP, NIL, [-256, 512, 257], 2 - 10 * 256), 86)
        self.assertEqual(first_time(sums, LOOP, NIL, (1, 0, 0), 1), 0)
        self.assertIsNone(first_time(sums, LOOP, NIL, (1, 0, 0), 2))
        self.assertEqual(first_time(sums, LOOP, NIL, (1, 0, 0), 257, start=10 ** 40), 10 ** 40)
        self.assertIsNone(first_time(sums, LOOP, NIL, (0, 2, 0), 1))

    def test_far_starts_behind_the_period(self):
        sums = sums_grammar()
        for start in (10 ** 30, 10 ** 30 + 255, 2 ** 64):
            found = first_time(sums, LOOP, NIL, (0, 0, 1), 2, start=start)
            self.assertEqual((found - 86) % 256, 0)
            self.assertTrue(start <= found < start + 256)

    def test_late_times_at_width_64(self):
        sums = sums_grammar(64)
        third = pow(3, -1, 2 ** 64)
        self.assertEqual(first_time(sums, LOOP, NIL, (0, 0, 1), 2), 2 * third % 2 ** 64)
        self.assertEqual(first_time(sums, LOOP, NIL, (0, 0, 1), 2, start=2 ** 64), 2 ** 64 + 2 * third % 2 ** 64)
        powers = map_grammar(64, [(0, 3)], (0, 1), (1,))
        for times in (0, 1, 64, 999, 2 ** 61 + 12345, 2 ** 62 - 1):
            self.assertEqual(first_time(powers, UP, LEAF, (0, 1), pow(3, times, 2 ** 64)), times)
        self.assertIsNone(first_time(powers, UP, LEAF, (0, 1), 5))
        self.assertIsNone(first_time(powers, UP, LEAF, (0, 1), 2))

    def test_squares_and_cubes_at_width_64(self):
        # p of a chain of leaves of number 1 is 0 + 1 + .. + times.
        places = places_grammar(64)
        loop = [("", "t"), ("leaf", (), (1,)), ("join", (0, 1), ())]
        leaf = [("leaf", (), (1,))]
        for times in (3, 2 ** 31, 2 ** 63 + 5):
            wish = times * (times + 1) // 2
            found = first_time(places, loop, leaf, (0, 0, 0, 1), wish)
            self.assertLessEqual(found, times)
            self.assertEqual((found * (found + 1) // 2 - wish) % 2 ** 64, 0)
            if times == 3:
                self.assertEqual(found, 3)
        cubes = map_grammar(64, [(1, 1, 0, 0), (0, 1, 1, 0), (0, 0, 1, 1)], (0, 1, 1, 1), (0, 0, 0))
        for one, two, three in itertools.product((5, 2 ** 40, 10 ** 15), (7, 2 ** 33 + 1, 2 ** 63), (0, 2 ** 20)):
            worths = [(at - one) * (at - two) * (at - three) for at in range(4)]
            form = (worths[0], worths[1] - worths[0], worths[2] - 2 * worths[1] + worths[0],
                    worths[3] - 3 * worths[2] + 3 * worths[1] - worths[0])
            found = first_time(cubes, UP, LEAF, form, 0)
            self.assertEqual((found - one) * (found - two) * (found - three) % 2 ** 64, 0)
            self.assertLessEqual(found, min(one, two, three))

    def test_random_maps_at_width_64(self):
        dice = random.Random(6)
        for _ in range(60):
            rows = random_map(dice, 64, 3)
            grammar = map_grammar(64, rows, (0, 1, 1, 1), (1, 2, 3))
            form = tuple(dice.randrange(2 ** 64) for _ in range(4))
            times = dice.randrange(2 ** 66)
            wish = form_at(form, chain_value(grammar, UP, LEAF, times), 64)
            found = first_time(grammar, UP, LEAF, form, wish)
            self.assertLessEqual(found, times)
            self.assertEqual(form_at(form, chain_value(grammar, UP, LEAF, found), 64), wish)
            later = first_time(grammar, UP, LEAF, form, wish, start=found + 1)
            if found < times:
                self.assertTrue(found < later <= times)
            if later is not None:
                self.assertEqual(form_at(form, chain_value(grammar, UP, LEAF, later), 64), wish)

    def test_what_dies_out(self):
        dying = map_grammar(64, [(0, 2, 1, 0), (0, 0, 2, 1), (0, 0, 0, 2)], (0, 1, 0, 0), (1, 1, 1))
        self.assertEqual(first_time(dying, UP, LEAF, (0, 1, 0, 0), 0), 64)
        self.assertEqual(first_time(dying, UP, LEAF, (0, 1, 0, 0), 0, start=10 ** 30), 10 ** 30)
        self.assertIsNone(first_time(dying, UP, LEAF, (0, 1, 0, 0), 1, start=1))
        self.assertEqual(first_time(dying, UP, LEAF, (0, 1, 0, 0), 1), 0)

    def test_kinds_without_contexts_are_reckoned_all_the_same(self):
        self.assertEqual(first_time(bare_grammar(), [("", "lone")], [("only", (), (1, 2))], (0, 1), 5), 0)
        self.assertIsNone(first_time(bare_grammar(), [("", "lone")], [("only", (), (1, 2))], (0, 1), 6))

    def form_fails(self, index, form):
        for wish, start in ((1, 0), (None, None)):
            with self.assertRaises(NoForm) as caught:
                first_time(sums_grammar(), LOOP, NIL, form, wish, start=start)
            self.assertEqual(caught.exception.index, index)

    def test_no_form(self):
        for thing in odd_values():
            self.form_fails(-1, thing)
        for many in (0, 1, 2, 4, 5):
            self.form_fails(-1, (1,) * many)
        for thing in no_integers():
            self.form_fails(0, (thing, thing, 1))
            self.form_fails(2, [0, 10 ** 30, thing])
            self.form_fails(-1, (0, thing))

    def test_no_count(self):
        for thing in no_integers():
            with self.assertRaises(NoCount) as caught:
                first_time(sums_grammar(), LOOP, NIL, (0, 0, 1), thing, start=thing)
            self.assertEqual(caught.exception.part, "wish")
        for thing in no_integers() + [-1, -10 ** 30]:
            with self.assertRaises(NoCount) as caught:
                first_time(sums_grammar(), LOOP, NIL, (0, 0, 1), 2, start=thing)
            self.assertEqual(caught.exception.part, "start")


class ChainErrorsTest(unittest.TestCase):

    def test_errors_in_their_order(self):
        sums = sums_grammar()
        leaf = [("one", (), (1,))]

        def counted(called):
            return lambda context, tree, times=None: called(sums, context, tree, times)
        calls = [counted(chain_value), counted(chain_answers), counted(chain_nodes),
                 lambda context, tree: comes_back(sums, context, tree),
                 lambda context, tree: first_time(sums, context, tree, None, None, start=None)]
        for called in calls:
            for thing in odd_values():
                for context, index in ((thing, tree_index(thing)), (LOOP + [thing], 3)):
                    with self.assertRaises(NoContext) as caught:
                        called(context, None)
                    self.assertEqual(caught.exception.index, index)
                for tree, index in ((thing, tree_index(thing)), (FIVE + [thing], 4)):
                    with self.assertRaises(NoTree) as caught:
                        called(LOOP, tree)
                    self.assertEqual(caught.exception.index, index)
            for context, tree, kind in ((AROUND, None, "row"), (LOOP, leaf, "leaf"), ([("", "leaf")], FIVE, "row")):
                with self.assertRaises(WrongKind) as caught:
                    called(context, tree)
                self.assertEqual(caught.exception.kind, kind)
            with self.assertRaises(NoContext) as caught:
                called(FIVE, None)
            self.assertEqual(caught.exception.index, -1)
        for called in calls[:3]:
            for times in no_integers() + [-1, -10 ** 30]:
                for context, tree in ((LOOP, NIL), ([("", "leaf")], leaf)):
                    with self.assertRaises(NoCount) as caught:
                        called(context, tree, times)
                    self.assertEqual(caught.exception.part, "times")
        with self.assertRaises(NotTop) as caught:
            chain_answers(sums, [("", "leaf")], leaf, 0)
        self.assertEqual(caught.exception.kind, "leaf")


class GeneralRulesTest(unittest.TestCase):

    def test_by_name(self):
        sums = sums_grammar()
        self.assertEqual(chain_value(times=4, tree=NIL, context=LOOP, grammar=sums), (4, 12))
        self.assertEqual(chain_answers(times=4, tree=NIL, context=LOOP, grammar=sums), [20])
        self.assertEqual(chain_nodes(times=4, tree=NIL, context=LOOP, grammar=sums), 9)
        self.assertEqual(comes_back(tree=NIL, context=LOOP, grammar=sums), (0, 256))
        self.assertEqual(loop_order(context=LOOP, grammar=sums), 256)
        self.assertEqual(parting(tree=NIL, other=[("", "row")], one=LOOP, grammar=sums), (1, [("", "row")], 0))
        self.assertEqual(first_time(start=0, wish=2, form=(0, 0, 1), tree=NIL, context=LOOP, grammar=sums), 86)
        with self.assertRaises(TypeError):
            first_time(sums, LOOP, NIL, (0, 0, 1), 2, 87)

    def test_lists_and_tuples_are_alike(self):
        sums = sums_grammar()
        self.assertEqual(chain_value(sums, tuple(LOOP), tuple(FIVE), 9), chain_value(sums, LOOP, FIVE, 9))
        self.assertEqual(comes_back(sums, tuple(LOOP), tuple(FIVE)), comes_back(sums, LOOP, FIVE))
        self.assertEqual(first_time(sums, tuple(LOOP), tuple(FIVE), [0, 0, 1], 2),
                         first_time(sums, LOOP, FIVE, (0, 0, 1), 2))

    def test_arguments_stay_as_they_were_and_results_may_be_changed(self):
        sums, loop, tree, form = sums_grammar(), copy.deepcopy(LOOP), copy.deepcopy(FIVE), [0, 0, 1]
        chain_answers(sums, loop, tree, 5).clear()
        parting(sums, loop, [("", "row")], tree)[1].clear()
        first_time(sums, loop, tree, form, 2)
        comes_back(sums, loop, tree)
        loop_order(sums, loop)
        self.assertEqual((sums, loop, tree, form), (sums_grammar(), LOOP, FIVE, [0, 0, 1]))
        self.assertEqual(parting(sums, loop, [("", "row")], tree)[1], [("", "row")])

    def test_what_is_alike_for_spanning_trees_is_so_for_all(self):
        for grammar, name, context, _, _ in small_loops(SEEDS[:40]):
            order = loop_order(grammar, context)
            for tree in spanning_trees(grammar, name):
                if order is not None:
                    ahead, period = comes_back(grammar, context, tree)
                    self.assertEqual((ahead, order % period), (0, 0))


if __name__ == "__main__":
    unittest.main()
