"""Stage 11: points 57 to 59 and 62, judged by grammars in which all trees, contexts and numbers are tried."""

import copy
import itertools
import random
import unittest

from leastattr.errors import NoContext, NoRule, WrongKind
from leastattr.grammars import Grammar
from leastattr.order import brackets, crossed, doubled, idle, swaps
from leastattr.trees import answers_of, context_map, fill, kind_of, kinds_of_context, value
from brute import all_numbers, asked_of, form_at, joining_grammar, minus, product, small_grammar, sums_at, trees_of
from samples import (FIVE, LOOP, are_tidy, bare_grammar, bits_grammar, doubled_leaves, doubling_grammar, lists_grammar,
                     mixed_grammar, nodes_grammar, nodes_of, odd_values, places_grammar, random_context,
                     sums_grammar, tree_index, wide_grammar)

SEEDS = range(160)
HOLE = [("", "t")]


def worlds(seeds):
    """Small grammars, with the attributes of all trees and what all contexts ask, by the names of kinds."""
    for grammar in [small_grammar(seed) for seed in seeds] + [joining_grammar(seed) for seed in range(2 * len(seeds))]:
        trees = trees_of(grammar)
        asked = asked_of(grammar, trees)
        names = [name for name, _ in grammar.kinds]
        yield grammar, dict(zip(names, trees)), dict(zip(names, asked)), random.Random(len(asked[0]))


def alike(grammar, rows, one, other):
    """Whether no context tells two states apart."""
    more = minus(grammar.width, one, other)
    return all(product(grammar.width, row, more) == 0 for row in rows)


def node_of(rule, trees, numbers):
    """The tree of a rule with these trees as children."""
    steps, places = [], []
    for tree in trees:
        start = len(steps)
        steps += [(name, tuple(start + place for place in own), given) for name, own, given in tree]
        places.append(len(steps) - 1)
    return steps + [(rule[0], tuple(places), numbers)]


class Checks(unittest.TestCase):

    def check_pair(self, grammar, kind, pair, one, other):
        """Checks a tuple (context, index) that shows that two trees of a kind are not alike."""
        context, index = pair
        self.assertTrue(are_tidy(context))
        self.assertEqual(kinds_of_context(grammar, context), (kind, grammar.top))
        told = []
        for tree in (one, other):
            form = grammar.answers[index]
            state = value(grammar, tree)
            outside = [form_at(own, state, grammar.width) for own in context_map(grammar, context)]
            told.append(form_at(form, outside, grammar.width))
            if len(context) + len(tree) <= 2000:
                self.assertEqual(answers_of(grammar, fill(grammar, context, tree))[index], told[-1])
        self.assertNotEqual(*told)

    def check_trees(self, grammar, kind, trees, nodes):
        """Checks trees of a kind that are told, and how many nodes they have together."""
        for tree in trees:
            self.assertTrue(are_tidy(tree))
            self.assertEqual(kind_of(grammar, tree), kind)
            for _, _, numbers in tree:
                self.assertTrue(all(0 <= number < 2 ** grammar.width for number in numbers))
        self.assertEqual(sum(nodes_of(tree) for tree in trees), nodes)

    def check_numbers(self, grammar, rule, numbers):
        self.assertIs(type(numbers), tuple)
        self.assertEqual(len(numbers), rule[3])
        self.assertTrue(all(type(number) is int and 0 <= number < 2 ** grammar.width for number in numbers))


class SwapsTest(Checks):

    def check_told(self, grammar, rule, found, nodes):
        self.assertIs(type(found), tuple)
        one, other, numbers, context, index = found
        self.check_trees(grammar, rule[2][0], (one, other), nodes)
        self.check_numbers(grammar, rule, numbers)
        self.check_pair(grammar, rule[1], (context, index), node_of(rule, (one, other), numbers),
                        node_of(rule, (other, one), numbers))

    def test_against_all_trees(self):
        told = set()
        for grammar, trees, asked, _ in worlds(SEEDS):
            for rule in grammar.rules:
                if len(rule[2]) != 2 or rule[2][0] != rule[2][1]:
                    with self.assertRaises(NoRule):
                        swaps(grammar, rule[0])
                    continue
                width, own = grammar.width, trees[rule[2][0]]
                nodes = min([own[one] + own[other] for one in own for other in own
                             for numbers in all_numbers(width, rule[3])
                             if not alike(grammar, asked[rule[1]], sums_at(rule[4], (one, other), numbers, width),
                                          sums_at(rule[4], (other, one), numbers, width))], default=None)
                found = swaps(grammar, rule[0])
                told.add((nodes, rule[1] == rule[2][0], rule[3] > 0))
                if nodes is None:
                    self.assertIsNone(found)
                else:
                    self.check_told(grammar, rule, found, nodes)
        self.assertTrue({nodes for nodes, _, _ in told} >= {None, 2, 3, 4, 5}, told)
        self.assertTrue({more for more in told if more[1:] == (False, True)}, told)

    def test_the_examples(self):
        found = swaps(places_grammar(), "join")
        self.check_told(places_grammar(), places_grammar().rules[1], found, 2)
        self.assertIsNone(swaps(nodes_grammar(), "join"))
        self.assertIsNone(swaps(bits_grammar(), "both"))

    def test_trees_of_one_number_each_may_be_needed(self):
        self.assertEqual(sorted(step[2] for step in swaps(places_grammar(), "join")[0]
                                + swaps(places_grammar(), "join")[1]), [(0,), (1,)])

    def test_the_numbers_at_the_node(self):
        grammar = Grammar(4, [("t", ("x",))], [
            ("leaf", "t", (), 1, (((1, (), 0),),)),
            ("pair", "t", ("t", "t"), 2, (((1, (0, -1), -1), (1, (-1, 0), -1), (8, (0, -1), 1)),)),
        ], "t", [(0, 1)])
        found = swaps(grammar, "pair")
        self.check_told(grammar, grammar.rules[1], found, 2)
        self.assertEqual(found[2][1] & 1, 1)

    def test_many_nodes_may_be_needed(self):
        # x stays 0 up to a tree of many nodes, so that only a tree like this and a leaf may not change places.
        doubling = doubling_grammar(64)
        rules = list(doubling.rules[:-1]) + [("last", "e", ("d", "d"), 0, (((1, (2, -1), -1),), (), ()))]
        grammar = Grammar(64, doubling.kinds, rules, "e", [(0, 1, 0, 0)])
        found = swaps(grammar, "last")
        # The smallest tree of d whose z is not 0 has 2 ** 12 - 1 nodes, and the smallest one of all has 15.
        self.check_told(grammar, rules[-1], found, 2 ** 12 - 1 + 15)

    def test_kinds_without_trees_or_contexts(self):
        self.assertIsNone(swaps(bare_grammar(), "void"))
        grammar = Grammar(8, [("a", ("x",)), ("b", ("y",))], [
            ("leaf", "b", (), 1, (((1, (), 0),),)), ("pair", "b", ("b", "b"), 0, (((1, (0, -1), -1),),)),
        ], "a", [(0, 1)])
        for called in (swaps, brackets, doubled):
            self.assertIsNone(called(grammar, "pair"))

    def test_widths_1_and_64(self):
        for width in (1, 64):
            places = places_grammar(width)
            self.check_told(places, places.rules[1], swaps(places, "join"), 2)
            self.assertIsNone(swaps(nodes_grammar(width), "join"))
        wide = wide_grammar(64, 1)
        for rule in wide.rules:
            if len(rule[2]) == 2 and rule[2][0] == rule[2][1]:
                self.check_told(wide, rule, swaps(wide, rule[0]), 2)


class BracketsTest(Checks):

    def check_told(self, grammar, rule, found, nodes):
        self.assertIs(type(found), tuple)
        one, two, three, context, index = found
        self.check_trees(grammar, rule[1], (one, two, three), nodes)
        self.check_pair(grammar, rule[1], (context, index),
                        node_of(rule, (node_of(rule, (one, two), ()), three), ()),
                        node_of(rule, (one, node_of(rule, (two, three), ())), ()))

    def test_against_all_trees(self):
        told = set()
        for grammar, trees, asked, _ in worlds(SEEDS):
            for rule in grammar.rules:
                if rule[2] != (rule[1], rule[1]) or rule[3]:
                    with self.assertRaises(NoRule):
                        brackets(grammar, rule[0])
                    continue
                own = trees[rule[1]]

                def node(*children):
                    return sums_at(rule[4], children, (), grammar.width)
                nodes = min([sum(own[state] for state in states) for states in itertools.product(own, repeat=3)
                             if not alike(grammar, asked[rule[1]], node(node(*states[:2]), states[2]),
                                          node(states[0], node(*states[1:])))], default=None)
                found = brackets(grammar, rule[0])
                told.add(nodes)
                if nodes is None:
                    self.assertIsNone(found)
                else:
                    self.check_told(grammar, rule, found, nodes)
        self.assertTrue(told >= {None, 3, 4, 5}, told)

    def test_the_examples(self):
        self.assertIsNone(brackets(places_grammar(), "join"))
        self.assertIsNone(brackets(nodes_grammar(), "join"))
        self.assertIsNone(brackets(bits_grammar(), "both"))

    def test_what_no_context_asks_for_may_be_bracketed_otherwise(self):
        rules = [("leaf", "t", (), 0, (((1, (), -1),), ())),
                 ("less", "t", ("t", "t"), 0, (((1, (0, -1), -1), (-1, (-1, 0), -1)),
                                               ((1, (1, -1), -1), (1, (-1, 1), -1), (1, (-1, -1), -1))))]
        kinds = [("t", ("x", "y"))]
        for answer, is_so in (((0, 0, 1), True), ((0, 1, 1), False), ((0, 128, 0), True), ((0, 64, 0), False)):
            grammar = Grammar(8, kinds, rules, "t", [answer])
            found = brackets(grammar, "less")
            if is_so:
                self.assertIsNone(found)
            else:
                self.check_told(grammar, rules[1], found, 3)

    def test_widths_1_and_64(self):
        for width in (1, 64):
            self.assertIsNone(brackets(places_grammar(width), "join"))
        twice = Grammar(64, [("t", ("x",))], [("leaf", "t", (), 0, (((1, (), -1),),)),
                                              ("up", "t", ("t", "t"), 0, (((2, (0, -1), -1), (1, (-1, 0), -1)),))], "t",
                        [(0, 2 ** 62)])
        self.check_told(twice, twice.rules[1], brackets(twice, "up"), 3)
        self.assertIsNone(brackets(Grammar(64, twice.kinds, twice.rules, "t", [(0, 2 ** 63)]), "up"))


def loops_of(grammar, trees, kind, dice, many):
    """Some loops of a kind, the hole alone among them."""
    found = [[("", kind)]]
    for name, _, children, numbers, _ in grammar.rules:
        if name == "join":
            found += [[("leaf", (), ()), ("", "t"), ("join", places, (0,) * numbers)] for places in ((0, 1), (1, 0))]
    if trees[grammar.top]:
        for _ in range(20 * many):
            context = random_context(grammar, kind, dice.randrange(1, 5), dice.random())
            if len(found) < many and kinds_of_context(grammar, context) == (kind, kind) and len(context) > 1:
                found.append(context)
    return found


def mapped(grammar, context, state):
    """What a context makes of a state."""
    return tuple(form_at(form, state, grammar.width) for form in context_map(grammar, context))


class IdleTest(Checks):

    def test_against_all_trees(self):
        told = set()
        for grammar, trees, asked, dice in worlds(SEEDS):
            for kind, states in trees.items():
                for context in loops_of(grammar, trees, kind, dice, 4):
                    nodes = min([own for state, own in states.items()
                                 if not alike(grammar, asked[kind], mapped(grammar, context, state), state)],
                                default=None)
                    found = idle(grammar, tuple(context) if dice.randrange(2) else context)
                    told.add(nodes)
                    if nodes is None:
                        self.assertIsNone(found)
                    else:
                        self.check_trees(grammar, kind, [found[0]], nodes)
                        self.check_pair(grammar, kind, found[1:], fill(grammar, context, found[0]), found[0])
        self.assertTrue(told >= {None, 1, 2, 3}, told)

    def test_the_hole_alone_does_nothing(self):
        for grammar in (sums_grammar(), bare_grammar(), mixed_grammar()):
            for name, _ in grammar.kinds:
                self.assertIsNone(idle(grammar, [("", name)]))

    def test_a_loop_whose_attributes_differ_may_do_nothing(self):
        lists = lists_grammar()
        loop = [("", "list"), ("cons", (0,), (3,)), ("cons", (1,), (-3,))]
        self.assertIsNone(idle(lists, loop))
        self.assertEqual(idle(lists, loop[:2])[1:], ([("", "list")], 0))
        self.assertIsNone(idle(lists, [("", "list"), ("cons", (0,), (256,))]))

    def test_a_loop_that_only_some_trees_feel(self):
        # x goes times 17, which leaves 0 and 16 as they are.
        grammar = Grammar(8, [("t", ("x",))], [
            ("nil", "t", (), 0, ((),)), ("up", "t", ("t",), 0, (((1, (0,), -1), (8, (-1,), -1)),)),
            ("by", "t", ("t",), 0, (((17, (0,), -1),),)),
        ], "t", [(0, 1)])
        loop = [("", "t"), ("by", (0,), ())]
        found = idle(grammar, loop)
        self.check_trees(grammar, "t", [found[0]], 2)
        self.assertEqual(found[0], [("nil", (), ()), ("up", (0,), ())])
        self.check_pair(grammar, "t", found[1:], fill(grammar, loop, found[0]), found[0])
        self.assertIsNone(idle(Grammar(7, grammar.kinds, grammar.rules, "t", [(0, 1)]), loop))

    def test_kinds_without_trees_or_contexts(self):
        bare = bare_grammar()
        self.assertIsNone(idle(bare, [("", "none"), ("back", (0,), ())]))
        self.assertIsNone(idle(bare, [("", "none"), ("leaf", (), (9,)), ("twin", (0, 1), ())]))
        grammar = Grammar(8, [("a", ("x",)), ("b", ("y",))], [
            ("leaf", "b", (), 1, (((1, (), 0),),)), ("up", "b", ("b",), 0, (((3, (0,), -1),),)),
        ], "a", [(0, 1)])
        self.assertIsNone(idle(grammar, [("", "b"), ("up", (0,), ())]))

    def test_loops_of_2000_steps(self):
        lists = lists_grammar()
        loop = [("", "list")] + [("cons", (at,), (1,)) for at in range(1999)]
        self.assertEqual(idle(lists, loop)[0], [("nil", (), ())])
        loop[-1] = ("cons", (1998,), (-1998,))
        self.assertIsNone(idle(lists, loop))
        nodes = nodes_grammar(64)
        deep = doubled_leaves(1998) + HOLE + [("join", (1997, 1998), ())]
        # The tree beside the hole has 2 ** 1998 - 1 nodes, which is -1, and the join counts as 1.
        self.assertIsNone(idle(nodes, deep))
        self.assertEqual(idle(nodes, doubled_leaves(30) + HOLE + [("join", (29, 30), ())])[1:], (HOLE, 0))

    def test_no_context_then_wrong_kind(self):
        sums = sums_grammar()
        for thing in odd_values():
            for context, index in ((thing, tree_index(thing)), (LOOP + [thing], 3)):
                for called in (lambda wrong: idle(sums, wrong), lambda wrong: crossed(sums, wrong, None),
                               lambda wrong: crossed(sums, LOOP, wrong)):
                    with self.assertRaises(NoContext) as caught:
                        called(context)
                    self.assertEqual(caught.exception.index, index)
        around = [("nil", (), ()), ("", "leaf"), ("put", (0, 1), ())]
        for called in (lambda: idle(sums, around), lambda: crossed(sums, around, None),
                       lambda: crossed(sums, LOOP, around), lambda: crossed(sums, [("", "leaf")], around)):
            with self.assertRaises(WrongKind) as caught:
                called()
            self.assertEqual(caught.exception.kind, "row")
        with self.assertRaises(NoContext) as caught:
            idle(sums, FIVE)
        self.assertEqual(caught.exception.index, -1)


class CrossedTest(Checks):

    def test_against_all_trees(self):
        told = set()
        for grammar, trees, asked, dice in worlds(SEEDS):
            for kind, states in trees.items():
                loops = loops_of(grammar, trees, kind, dice, 3)[-3:]
                for one, other in itertools.product(loops, repeat=2):
                    nodes = min([own for state, own in states.items() if not alike(
                        grammar, asked[kind], mapped(grammar, one, mapped(grammar, other, state)),
                        mapped(grammar, other, mapped(grammar, one, state)))], default=None)
                    found = crossed(grammar, one, other)
                    told.add(nodes)
                    if nodes is None:
                        self.assertIsNone(found)
                    else:
                        self.check_trees(grammar, kind, [found[0]], nodes)
                        self.check_pair(grammar, kind, found[1:],
                                        fill(grammar, one, fill(grammar, other, found[0])),
                                        fill(grammar, other, fill(grammar, one, found[0])))
        self.assertTrue(told >= {None, 1, 2, 3}, told)

    def test_loops_that_change_places(self):
        sums = sums_grammar()
        other = [("", "row"), ("one", (), (9,)), ("put", (0, 1), ())]
        self.assertIsNone(crossed(sums, LOOP, other))
        self.assertIsNone(crossed(sums, LOOP, [("", "row")]))
        places = places_grammar()
        one = [("leaf", (), (1,)), ("", "t"), ("join", (0, 1), ())]
        two = [("leaf", (), (1,)), ("", "t"), ("join", (1, 0), ())]
        self.assertIsNone(crossed(places, one, two))
        three = [("leaf", (), (2,)), ("", "t"), ("join", (0, 1), ())]
        self.assertEqual(crossed(places, one, three)[1:], ([("", "t")], 0))

    def test_loops_of_two_kinds(self):
        with self.assertRaises(WrongKind) as caught:
            crossed(sums_grammar(), LOOP, [("", "leaf")])
        self.assertEqual(caught.exception.kind, "leaf")
        with self.assertRaises(WrongKind) as caught:
            crossed(sums_grammar(), [("", "leaf")], tuple(LOOP))
        self.assertEqual(caught.exception.kind, "row")


class DoubledTest(Checks):

    def check_told(self, grammar, rule, found, nodes):
        self.assertIs(type(found), tuple)
        tree, numbers, context, index = found
        self.check_trees(grammar, rule[1], [tree], nodes)
        self.check_numbers(grammar, rule, numbers)
        self.check_pair(grammar, rule[1], (context, index), node_of(rule, (tree, tree), numbers), tree)

    def test_against_all_trees(self):
        told = set()
        for grammar, trees, asked, _ in worlds(SEEDS):
            for rule in grammar.rules:
                if rule[2] != (rule[1], rule[1]):
                    with self.assertRaises(NoRule):
                        doubled(grammar, rule[0])
                    continue
                width = grammar.width
                nodes = min([own for state, own in trees[rule[1]].items() for numbers in all_numbers(width, rule[3])
                             if not alike(grammar, asked[rule[1]], sums_at(rule[4], (state, state), numbers, width),
                                          state)], default=None)
                found = doubled(grammar, rule[0])
                told.add(nodes)
                if nodes is None:
                    self.assertIsNone(found)
                else:
                    self.check_told(grammar, rule, found, nodes)
        self.assertTrue(told >= {None, 1, 2, 3}, told)

    def test_the_examples(self):
        self.assertIsNone(doubled(bits_grammar(), "both"))
        self.assertEqual(doubled(nodes_grammar(), "join"), ([("leaf", (), ())], (), HOLE, 0))

    def test_bits_alone_are_their_squares(self):
        # With leaves of any number, 0 and 1 span the same, but 2 is not its square.
        rules = [("leaf", "b", (), 1, (((1, (), 0),),)), ("both", "b", ("b", "b"), 0, (((1, (0, 0), -1),),))]
        any_leaf = Grammar(6, [("b", ("x",))], rules, "b", [(0, 1)])
        self.check_told(any_leaf, rules[1], doubled(any_leaf, "both"), 1)
        self.assertIsNone(doubled(Grammar(6, [("b", ("x",))], rules, "b", [(0, 32)]), "both"))
        self.assertIsNone(doubled(Grammar(1, [("b", ("x",))], rules, "b", [(0, 1)]), "both"))
        self.assertIsNone(doubled(bits_grammar(64), "both"))

    def test_a_larger_tree_may_be_needed(self):
        rules = list(bits_grammar(64).rules) + [("two", "b", ("b", "b"), 0, (((1, (0, -1), -1), (1, (-1, 0), -1)),))]
        grammar = Grammar(64, [("b", ("x",))], rules, "b", [(0, 1)])
        found = doubled(grammar, "both")
        self.check_told(grammar, rules[2], found, 3)
        self.check_told(grammar, rules[3], doubled(grammar, "two"), 1)

    def test_the_numbers_at_the_node(self):
        rules = [("zero", "b", (), 0, ((),)), ("one", "b", (), 0, (((1, (), -1),),)),
                 ("both", "b", ("b", "b"), 2, (((1, (0, 0), -1), (32, (0, -1), 1)),))]
        grammar = Grammar(6, [("b", ("x",))], rules, "b", [(0, 1)])
        found = doubled(grammar, "both")
        self.check_told(grammar, rules[2], found, 1)
        self.assertEqual((found[0], found[1][1] & 1), ([("one", (), ())], 1))

    def test_widths_1_and_64(self):
        tried = 0
        for seed in range(30):
            wide = wide_grammar((1, 64)[seed % 2], seed)
            for rule in wide.rules:
                if rule[2] == (rule[1], rule[1]):
                    tried += 1
                    found = doubled(wide, rule[0])
                    if found is not None:
                        self.check_told(wide, rule, found, nodes_of(found[0]))
        self.assertGreater(tried, 3)


class NoRuleTest(unittest.TestCase):

    def fails(self, called, grammar, name):
        with self.assertRaises(NoRule) as caught:
            called(grammar, name)
        self.assertIs(caught.exception.rule, name)

    def test_no_rule(self):
        for called in (swaps, brackets, doubled):
            for thing in odd_values() + ["t", "n", "joins", "row"]:
                self.fails(called, nodes_grammar(), thing)

    def test_rules_that_do_not_fit(self):
        mixed, bare = mixed_grammar(), bare_grammar()
        for called in (swaps, brackets, doubled):
            for name in ("la", "lb", "ua", "ub", "ja"):
                self.fails(called, mixed, name)
            for name in ("leaf", "pair", "back", "twin", "only", "wrap"):
                self.fails(called, bare, name)
        self.assertIsNotNone(swaps(mixed, "jb"))
        for called in (brackets, doubled):
            self.fails(called, mixed, "jb")
            self.fails(called, bare, "void")
        numbered = Grammar(4, [("t", ("x",))], [("pair", "t", ("t", "t"), 1, ((),))], "t", [(0, 1)])
        self.fails(brackets, numbered, "pair")
        self.assertIsNone(swaps(numbered, "pair"))
        self.assertIsNone(doubled(numbered, "pair"))


class GeneralRulesTest(unittest.TestCase):

    def test_by_name(self):
        places, sums = places_grammar(), sums_grammar()
        self.assertEqual(swaps(name="join", grammar=places), swaps(places, "join"))
        self.assertIsNone(brackets(name="join", grammar=places))
        self.assertEqual(doubled(name="join", grammar=places), doubled(places, "join"))
        self.assertEqual(idle(context=LOOP, grammar=sums), idle(sums, LOOP))
        self.assertIsNone(crossed(other=LOOP, one=LOOP, grammar=sums))

    def test_equal_arguments_give_equal_results(self):
        for seed in SEEDS[:60]:
            one, other = small_grammar(seed), small_grammar(seed)
            for rule in one.rules:
                if rule[2] == (rule[1], rule[1]):
                    self.assertEqual(swaps(one, rule[0]), swaps(other, rule[0]))
                    self.assertEqual(doubled(one, rule[0]), doubled(other, rule[0]))
        self.assertEqual(idle(sums_grammar(), tuple(LOOP)), idle(sums_grammar(), LOOP))

    def test_arguments_stay_as_they_were_and_results_may_be_changed(self):
        places, sums, loop = places_grammar(), sums_grammar(), copy.deepcopy(LOOP)
        wish = copy.deepcopy((swaps(places, "join"), idle(sums, loop), doubled(places, "join")))
        for found in (swaps(places, "join"), idle(sums, loop), doubled(places, "join")):
            for part in found:
                if isinstance(part, list):
                    part.clear()
        self.assertEqual((swaps(places, "join"), idle(sums, loop), doubled(places, "join")), wish)
        self.assertEqual((places, sums, loop), (places_grammar(), sums_grammar(), LOOP))

    def test_lists_of_equal_trees_are_not_one_list(self):
        less = Grammar(8, [("t", ("x",))], [("leaf", "t", (), 0, (((1, (), -1),),)), (
            "less", "t", ("t", "t"), 0, (((1, (0, -1), -1), (-1, (-1, 0), -1)),))], "t", [(0, 1)])
        found = brackets(less, "less")
        found[0].clear()
        self.assertEqual((found[1], found[2]), ([("leaf", (), ())], [("leaf", (), ())]))


if __name__ == "__main__":
    unittest.main()
