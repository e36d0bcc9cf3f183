"""Stage 10: points 53 to 55, judged by split grammars that are made of all pairs, and tried one by one."""

import copy
import itertools
import random
import types
import unittest

from leastattr.apart import apart
from leastattr.behaviours import least, least_numbers, paper, shown
from leastattr.codes import code_answers
from leastattr.compiling import compiled
from leastattr.errors import NoAutomaton, NoSplit, NoTree
from leastattr.exchange import exchangeable
from leastattr.grammars import Grammar
from leastattr.hulls import hull
from leastattr.judging import judge
from leastattr.splits import reached, split_grammar, split_numbers, state_of
from leastattr.trees import answers_of, kind_of
from leastattr.wants import wanted
from brute import asked_of, elements_of, generators_of, minus, product, small_grammar, trees_of
from samples import (FIVE, are_tidy, bare_grammar, lists_grammar, mixed_grammar, nodes_grammar, nodes_of, odd_values,
                     places_grammar, random_tree, sums_grammar, tree_index, wide_grammar)

SEEDS = range(120)
TWOS = {("cons", (0,)): 1}


def random_automaton(grammar, seed):
    """An automaton with few or many states, some of whose keys no tree has."""
    dice = random.Random(seed)
    most = dice.choice([0, 1, 1, 2, 2, 5])
    table = {}
    for rule in grammar.rules:
        for states in itertools.product(range(most + 1), repeat=len(rule[2])):
            if dice.randrange(4):
                table[(rule[0], states)] = dice.randrange(most + 1)
    return table


def counting(name, many):
    """The automaton of a rule with one child that counts how often it stands, modulo so many."""
    return {(name, (state,)): (state + 1) % many for state in range(many)}


def plain_state(automaton, tree):
    """The state of a tree, straight from point 53."""
    states = []
    for name, places, _ in tree:
        key = (name, tuple(states[place] for place in places))
        states.append(automaton[key] if key in automaton else 0)
    return states[-1]


def fewest_of_pairs(grammar, automaton):
    """A dict from the reached pairs to the fewest nodes of their trees, by going on as long as one gets fewer."""
    best = {}
    grows = True
    while grows:
        grows = False
        for name, kind, children, _, _ in grammar.rules:
            for states in itertools.product(range(6), repeat=len(children)):
                pairs = list(zip(children, states))
                if all(pair in best for pair in pairs):
                    nodes = 1 + sum(best[pair] for pair in pairs)
                    pair = (kind, automaton.get((name, states), 0))
                    if nodes < best.get(pair, nodes + 1):
                        best[pair] = nodes
                        grows = True
    return best


def split_by(grammar, automaton):
    """The parts of the split grammar, straight from point 55, however many they are, and the pairs."""
    order = [name for name, _ in grammar.kinds]
    pairs = sorted(fewest_of_pairs(grammar, automaton), key=lambda pair: (order.index(pair[0]), pair[1]))
    names = {pair: "p" + "abcdefghijklmnopqrstuvwxyz{|}~"[at] for at, pair in enumerate(pairs)}
    attributes = dict(grammar.kinds)
    rules = []
    for name, kind, children, numbers, values in grammar.rules:
        for states in itertools.product(range(6), repeat=len(children)):
            if all(pair in names for pair in zip(children, states)):
                to = names[(kind, automaton.get((name, states), 0))]
                rules.append((to, tuple(names[pair] for pair in zip(children, states)), numbers, values))
    for pair in pairs:
        if pair[0] == grammar.top:
            many = len(attributes[grammar.top])
            rules.append(("top", (names[pair],), 0, tuple(((1, (at,), -1),) for at in range(many))))
    kinds = tuple((names[pair], attributes[pair[0]]) for pair in pairs) + (("top", attributes[grammar.top]),)
    rules = tuple(("r" + chr(97 + at),) + rule for at, rule in enumerate(rules))
    return types.SimpleNamespace(width=grammar.width, kinds=kinds, rules=rules, top="top",
                                 answers=grammar.answers), pairs


def numbers_by(parts):
    """The least number of registers for each kind, by all trees and contexts, straight from point 33."""
    trees = trees_of(parts)
    found = []
    for states, rows in zip(trees, asked_of(parts, trees)):
        first = next(iter(states), None)
        if first is None:
            found.append(0)
            continue
        more = elements_of(parts.width, len(first), [minus(parts.width, one, first) for one in states])
        told = {tuple(product(parts.width, row, one) for row in rows) for one in more}
        found.append(generators_of(parts.width, told))
    return found


def reading(name, kinds, rules):
    """A grammar of width 1 with these kinds of one attribute and rules whose attributes are 0."""
    return Grammar(1, [(kind, ("x",)) for kind in kinds],
                   [("r" + "abcdefghijkl"[at], kind, children, 0, ((),)) for at, (kind, children) in enumerate(rules)],
                   name, [(0, 1)])


class StateOfTest(unittest.TestCase):

    def test_the_example(self):
        tree = [("nil", (), ())]
        for length in range(1, 6):
            tree.append(("cons", (length - 1,), (7,)))
            self.assertEqual(state_of(lists_grammar(), TWOS, tree), length % 2)

    def test_random_automata_and_trees(self):
        told = set()
        for seed in range(150):
            grammar = (mixed_grammar(4), sums_grammar(), places_grammar())[seed % 3]
            automaton = random_automaton(grammar, seed)
            tree = random_tree(grammar, grammar.top, 12, seed)
            found = state_of(grammar, automaton, tree)
            self.assertEqual(found, plain_state(automaton, tree))
            self.assertEqual(state_of(grammar, automaton, tuple(tree)), found)
            told.add(found)
        self.assertGreaterEqual(len(told), 5)

    def test_without_keys_all_states_are_0(self):
        self.assertEqual(state_of(sums_grammar(), {}, FIVE), 0)

    def test_states_of_both_children_in_order(self):
        automaton = {("one", ()): 2, ("put", (0, 2)): 3, ("put", (3, 2)): 5, ("put", (2, 0)): 1}
        self.assertEqual(state_of(sums_grammar(), automaton, FIVE), 5)
        self.assertEqual(state_of(sums_grammar(), automaton, FIVE[:3]), 3)

    def test_trees_of_2000_steps(self):
        steps = [("leaf", (), ())] + [("join", (at, at), ()) for at in range(1999)]
        automaton = {("join", (state, state)): (state + 1) % 6 for state in range(6)}
        self.assertEqual(state_of(nodes_grammar(), automaton, steps), 1999 % 6)

    def test_no_automaton_then_no_tree(self):
        for thing in odd_values():
            for automaton in ({("cons", (0,)): 6}, [TWOS], None):
                with self.assertRaises(NoAutomaton):
                    state_of(lists_grammar(), automaton, thing)
            with self.assertRaises(NoTree) as caught:
                state_of(lists_grammar(), TWOS, thing)
            self.assertEqual(caught.exception.index, tree_index(thing))


class ReachedTest(unittest.TestCase):

    def check_reached(self, grammar, automaton):
        best = fewest_of_pairs(grammar, automaton)
        found = reached(grammar, automaton)
        self.assertIs(type(found), list)
        order = [name for name, _ in grammar.kinds]
        self.assertEqual([row[:2] for row in found], sorted(best, key=lambda pair: (order.index(pair[0]), pair[1])))
        for row in found:
            self.assertIs(type(row), tuple)
            kind, state, tree = row
            self.assertTrue(are_tidy(tree))
            self.assertEqual((kind_of(grammar, tree), plain_state(automaton, tree)), (kind, state))
            self.assertEqual(nodes_of(tree), best[(kind, state)])
        return found

    def test_against_all_pairs(self):
        nodes = set()
        for seed in SEEDS:
            grammar = small_grammar(seed)
            for row in self.check_reached(grammar, random_automaton(grammar, seed)):
                nodes.add(nodes_of(row[2]))
        self.assertTrue(nodes >= {1, 2, 3, 4, 5}, nodes)

    def test_all_trees_of_few_nodes_have_a_reached_pair(self):
        for seed in SEEDS[:40]:
            grammar = mixed_grammar(4)
            automaton = random_automaton(grammar, seed)
            best = {row[:2]: nodes_of(row[2]) for row in reached(grammar, automaton)}
            for more in range(10):
                tree = random_tree(grammar, "b", more + 1, seed + 99 * more)
                pair = (kind_of(grammar, tree), state_of(grammar, automaton, tree))
                self.assertLessEqual(best[pair], nodes_of(tree))

    def test_the_example(self):
        found = reached(lists_grammar(), TWOS)
        self.assertEqual(found[0], ("list", 0, [("nil", (), ())]))
        self.assertEqual(found[1][:2], ("list", 1))
        self.assertEqual(nodes_of(found[1][2]), 2)

    def test_without_keys_there_is_a_pair_for_each_kind_with_trees(self):
        self.assertEqual([row[:2] for row in reached(bare_grammar(), {})], [("top", 0), ("lone", 0)])
        self.assertEqual([row[:2] for row in reached(sums_grammar(), {})], [("leaf", 0), ("row", 0)])

    def test_keys_that_no_tree_has(self):
        self.assertEqual([row[:2] for row in reached(lists_grammar(), {("cons", (3,)): 4})], [("list", 0)])
        automaton = {("pair", (0, 0)): 2, ("back", (1,)): 3, ("wrap", (5,)): 1}
        self.assertEqual([row[:2] for row in self.check_reached(bare_grammar(), automaton)], [("top", 0), ("lone", 0)])

    def test_kinds_without_trees_alone(self):
        grammar = Grammar(8, [("t", ("n",))], [("up", "t", ("t",), 0, ((),))], "t", [(0, 1)])
        self.assertEqual(reached(grammar, {("up", (0,)): 1}), [])

    def test_the_numbers_at_a_node_do_not_count(self):
        for kind, state, tree in reached(mixed_grammar(), {("la", ()): 5}):
            self.assertEqual(state_of(mixed_grammar(), {("la", ()): 5}, tree), state)

    def test_trees_with_many_nodes(self):
        automaton = {("leaf", ()): 0}
        for state in range(5):
            automaton[("join", (state, state))] = state + 1
        found = self.check_reached(nodes_grammar(), automaton)
        self.assertEqual([nodes_of(row[2]) for row in found], [1, 3, 7, 15, 31, 63])
        self.assertEqual([len(row[2]) for row in found], [1, 2, 3, 4, 5, 6])

    def test_thirty_pairs(self):
        wide = wide_grammar(8, 1)
        dice = random.Random(1)
        automaton = {(rule[0], states): dice.randrange(6) for rule in wide.rules
                     for states in itertools.product(range(6), repeat=len(rule[2]))}
        self.assertEqual(len(self.check_reached(wide, automaton)), 30)


class SplitNumbersTest(unittest.TestCase):

    def test_against_all_trees_and_contexts(self):
        many, told = set(), set()
        for seed in SEEDS:
            grammar = small_grammar(seed)
            automaton = random_automaton(grammar, seed)
            parts, pairs = split_by(grammar, automaton)
            found = split_numbers(grammar, automaton)
            wish = [pair + (number,) for pair, number in zip(pairs, numbers_by(parts))]
            self.assertEqual(found, wish)
            self.assertTrue(all(type(row) is tuple for row in found))
            for kind, _, number in found:
                self.assertLessEqual(number, least(grammar, kind))
                told.add(number - least(grammar, kind))
            many.add(len(pairs))
        self.assertTrue({0, -1} <= told)
        self.assertTrue({0, 1, 2, 3, 4, 5, 6, 11} <= many, many)

    def test_the_example(self):
        self.assertEqual(split_numbers(lists_grammar(), TWOS), [("list", 0, 1), ("list", 1, 1)])

    def test_they_are_those_of_the_split_grammar(self):
        for automaton in ({}, TWOS, counting("cons", 3), counting("cons", 4), {("nil", ()): 5}):
            table, pairs = split_grammar(lists_grammar(), automaton)
            wish = [pair + (number,) for pair, number in zip(pairs, least_numbers(table))]
            self.assertEqual(split_numbers(lists_grammar(), automaton), wish)

    def test_fewer_registers_may_be_enough_for_a_pair(self):
        # The attribute is the state itself, so that none is needed for trees of one state.
        rules = [("no", "t", (), 0, ((),)), ("up", "t", ("t",), 0, (((1, (0,), -1), (1, (-1,), -1)),))]
        grammar = Grammar(1, [("t", ("x",))], rules, "t", [(0, 1)])
        self.assertEqual(least_numbers(grammar), [1])
        self.assertEqual(split_numbers(grammar, counting("up", 2)), [("t", 0, 0), ("t", 1, 0)])
        self.assertEqual(split_numbers(grammar, counting("up", 6)), [("t", state, 0) for state in range(6)])
        self.assertEqual(split_numbers(grammar, counting("up", 3)), [("t", state, 1) for state in range(3)])

    def test_more_kinds_and_rules_than_a_grammar_may_have(self):
        lists = lists_grammar()
        with self.assertRaises(NoSplit):
            split_grammar(lists, counting("cons", 6))
        self.assertEqual(split_numbers(lists, counting("cons", 6)), [("list", state, 1) for state in range(6)])
        wide = wide_grammar(64, 1)
        dice = random.Random(2)
        automaton = {(rule[0], states): dice.randrange(6) for rule in wide.rules
                     for states in itertools.product(range(6), repeat=len(rule[2]))}
        found = split_numbers(wide, automaton)
        self.assertEqual(len(found), 30)
        self.assertTrue(all(number <= least(wide, kind) for kind, _, number in found[::6]))

    def test_kinds_without_trees_or_contexts(self):
        self.assertEqual(split_numbers(bare_grammar(), {}), [("top", 0, 1), ("lone", 0, 0)])
        grammar = Grammar(8, [("t", ("n",))], [("up", "t", ("t",), 0, ((),))], "t", [(0, 1)])
        self.assertEqual(split_numbers(grammar, {}), [])
        other = reading("a", "ab", [("b", ()), ("b", ("b",))])
        self.assertEqual(split_numbers(other, {}), [("b", 0, 0)])

    def test_widths_1_and_64(self):
        for width in (1, 64):
            places = places_grammar(width)
            automaton = {("join", (0, 0)): 1, ("join", (1, 1)): 2}
            parts = split_numbers(places, automaton)
            self.assertEqual([row[:2] for row in parts], [("t", 0), ("t", 1), ("t", 2)])
            self.assertTrue(all(1 <= row[2] <= 3 for row in parts))


class SplitGrammarTest(unittest.TestCase):

    def test_against_the_parts(self):
        told = set()
        for seed in SEEDS:
            grammar = small_grammar(seed)
            automaton = random_automaton(grammar, seed)
            parts, pairs = split_by(grammar, automaton)
            wish = "kinds" if len(pairs) > 4 else "rules" if not 1 <= len(parts.rules) <= 12 else None
            told.add(wish)
            if wish:
                with self.assertRaises(NoSplit) as caught:
                    split_grammar(grammar, automaton)
                self.assertEqual(caught.exception.part, wish)
                continue
            found = split_grammar(grammar, automaton)
            self.assertIs(type(found), tuple)
            self.assertIs(type(found[0]), Grammar)
            self.assertEqual(found[1], pairs)
            self.assertTrue(type(found[1]) is list and all(type(pair) is tuple for pair in found[1]))
            for name in ("width", "kinds", "rules", "top", "answers"):
                self.assertEqual(getattr(found[0], name), getattr(parts, name))
        self.assertEqual(told, {"kinds", "rules", None})

    def test_the_example(self):
        table, pairs = split_grammar(lists_grammar(), TWOS)
        lists = lists_grammar()
        nil, cons = lists.rules[0][4], lists.rules[1][4]
        same = (((1, (0,), -1),), ((1, (1,), -1),))
        self.assertEqual(table, Grammar(8, [("pa", ("len", "sum")), ("pb", ("len", "sum")), ("top", ("len", "sum"))], [
            ("ra", "pa", (), 0, nil), ("rb", "pb", ("pa",), 1, cons), ("rc", "pa", ("pb",), 1, cons),
            ("rd", "top", ("pa",), 0, same), ("re", "top", ("pb",), 0, same)], "top", [(0, 0, 1)]))
        self.assertEqual(pairs, [("list", 0), ("list", 1)])

    def test_just_five_kinds_and_more(self):
        table, pairs = split_grammar(lists_grammar(), counting("cons", 4))
        self.assertEqual([name for name, _ in table.kinds], ["pa", "pb", "pc", "pd", "top"])
        self.assertEqual(len(pairs), 4)
        for many in (5, 6):
            with self.assertRaises(NoSplit) as caught:
                split_grammar(lists_grammar(), counting("cons", many))
            self.assertEqual(caught.exception.part, "kinds")

    def test_just_twelve_rules_and_more(self):
        rules = [("a", ())] + [("a", ("a", "a"))] * 2
        # Two states of a: 1 and 2 times 4 rules, and 2 at the top.
        grammar = reading("a", "a", rules)
        automaton = {("rb", (0, 0)): 1}
        self.assertEqual(len(split_grammar(grammar, automaton)[0].rules), 11)
        grammar = reading("a", "a", rules + [("a", ())])
        table = split_grammar(grammar, automaton)[0]
        self.assertEqual([rule[0] for rule in table.rules], ["r" + sign for sign in "abcdefghijkl"])
        self.assertEqual([rule[1] for rule in table.rules[-3:]], ["pa", "top", "top"])
        grammar = reading("a", "a", rules + [("a", ()), ("a", ())])
        with self.assertRaises(NoSplit) as caught:
            split_grammar(grammar, automaton)
        self.assertEqual(caught.exception.part, "rules")

    def test_kinds_come_ahead_of_rules(self):
        grammar = reading("a", "abcde", [(kind, ()) for kind in "abcde"] + [("a", ("a",))] * 7)
        with self.assertRaises(NoSplit) as caught:
            split_grammar(grammar, {})
        self.assertEqual(caught.exception.part, "kinds")
        grammar = reading("a", "abcd", [(kind, ()) for kind in "abcd"] + [("a", ("a",))] * 8)
        with self.assertRaises(NoSplit) as caught:
            split_grammar(grammar, {})
        self.assertEqual(caught.exception.part, "rules")

    def test_no_rules(self):
        grammar = reading("a", "a", [("a", ("a",))])
        with self.assertRaises(NoSplit) as caught:
            split_grammar(grammar, {})
        self.assertEqual(caught.exception.part, "rules")

    def test_a_top_kind_without_trees(self):
        other = reading("a", "ab", [("b", ()), ("b", ("b",)), ("a", ("a",))])
        table, pairs = split_grammar(other, {("rb", (0,)): 4})
        self.assertEqual(pairs, [("b", 0), ("b", 4)])
        wish = [("ra", "pa", ()), ("rb", "pb", ("pa",)), ("rc", "pa", ("pb",))]
        self.assertEqual([rule[:3] for rule in table.rules], wish)
        self.assertEqual(table.kinds[-1], ("top", ("x",)))

    def test_states_of_two_children_ascend(self):
        grammar = reading("t", "at", [("a", ()), ("a", ("a",)), ("t", ("a", "a"))])
        table, pairs = split_grammar(grammar, {("rb", (0,)): 2, ("rb", (2,)): 2})
        self.assertEqual(pairs, [("a", 0), ("a", 2), ("t", 0)])
        self.assertEqual([rule[1:3] for rule in table.rules], [
            ("pa", ()), ("pb", ("pa",)), ("pb", ("pb",)), ("pc", ("pa", "pa")), ("pc", ("pa", "pb")),
            ("pc", ("pb", "pa")), ("pc", ("pb", "pb")), ("top", ("pc",))])

    def test_split_grammars_may_be_handed_to_other_functions(self):
        for automaton in ({}, TWOS, counting("cons", 3), {("nil", ()): 2}, counting("cons", 4), {("cons", (0,)): 3}):
            table, pairs = split_grammar(lists_grammar(), automaton)
            code = compiled(table)
            self.assertIsNone(judge(table, code))
            self.assertIsNone(apart(table, split_grammar(lists_grammar(), automaton)[0]))
            for name, _ in table.kinds:
                self.assertEqual(shown(table, name, paper(table, name)), least(table, name))
                self.assertIsNotNone(hull(table, name))
                self.assertTrue(wanted(table, name))
            for tree in [random_tree(table, "top", 9, more) for more in range(5)]:
                self.assertEqual(code_answers(table, code, tree), answers_of(table, tree))
                self.assertIsNone(exchangeable(table, tree, tree))
            if len(pairs) < 4:
                self.assertEqual(len(split_grammar(table, {})[1]), len(pairs) + 1)


def wrong_automata():
    """Values that are no automata for `sums`, many of them with one wrong entry behind a right one."""
    found = [thing for thing in odd_values() if thing != {}]
    for thing in odd_values():
        if isinstance(thing, bool) or not isinstance(thing, int) or thing < 0 or thing > 5:
            found.append({("nil", ()): 1, ("one", ()): thing})
        try:
            hash(thing)
        except TypeError:
            continue
        found.append({("nil", ()): 1, thing: 1})
        found.append({("nil", ()): 1, (thing, ()): 1})
        if thing != ():
            found.append({("nil", ()): 1, ("one", thing): 1})
        if isinstance(thing, bool) or not isinstance(thing, int) or thing < 0 or thing > 5:
            found.append({("nil", ()): 1, ("put", (0, thing)): 1})
            found.append({("nil", ()): 1, ("put", (thing, 0)): 1})
    found += [{("nil", (0,)): 1}, {("put", ()): 1}, {("put", (0,)): 1}, {("put", (0, 0, 0)): 1}, {("nil", (), ()): 1},
              {("nil",): 1}, {"nil": 1}, {("nil", ()): 6}, {("nil", ()): -1}, {("put", (6, 0)): 1},
              {("put", (0, -1)): 1}, {("leaf", ()): 1}, [(("nil", ()), 1)], ((("nil", ()), 1),)]
    return found


class WrongArgumentsTest(unittest.TestCase):

    def test_no_automaton(self):
        sums = sums_grammar()
        for thing in wrong_automata():
            for called in (reached, split_numbers, split_grammar, lambda *both: state_of(*both, FIVE)):
                with self.assertRaises(NoAutomaton):
                    called(sums, thing)

    def test_right_automata(self):
        sums = sums_grammar()
        for thing in ({}, {("nil", ()): 0}, {("put", (5, 5)): 5, ("one", ()): 3}):
            for called in (reached, split_numbers, split_grammar, lambda *both: state_of(*both, FIVE)):
                called(sums, thing)


class GeneralRulesTest(unittest.TestCase):

    def test_by_name(self):
        lists = lists_grammar()
        self.assertEqual(state_of(tree=[("nil", (), ())], automaton=TWOS, grammar=lists), 0)
        self.assertEqual(reached(automaton=TWOS, grammar=lists), reached(lists, TWOS))
        self.assertEqual(split_numbers(automaton=TWOS, grammar=lists), split_numbers(lists, TWOS))
        self.assertEqual(split_grammar(automaton=TWOS, grammar=lists), split_grammar(lists, TWOS))

    def test_equal_arguments_give_equal_results(self):
        for seed in SEEDS[:30]:
            one, automaton = small_grammar(seed), random_automaton(small_grammar(seed), seed)
            turned = dict(reversed(list(automaton.items())))
            self.assertEqual(reached(one, automaton), reached(small_grammar(seed), turned))
            self.assertEqual(split_numbers(one, automaton), split_numbers(small_grammar(seed), turned))

    def test_arguments_stay_as_they_were_and_results_may_be_changed(self):
        lists, automaton = lists_grammar(), dict(TWOS)
        rows, parts = copy.deepcopy(reached(lists, automaton)), split_grammar(lists, automaton)
        reached(lists, automaton)[0][2].clear()
        reached(lists, automaton).clear()
        split_numbers(lists, automaton).clear()
        split_grammar(lists, automaton)[1].clear()
        self.assertEqual((lists, automaton), (lists_grammar(), TWOS))
        self.assertEqual(reached(lists, automaton), rows)
        automaton.clear()
        self.assertEqual(parts, split_grammar(lists, TWOS))


if __name__ == "__main__":
    unittest.main()
