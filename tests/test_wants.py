"""Stage 5: points 28 to 31, judged by grammars in which all contexts are tried one by one."""

import copy
import itertools
import random
import unittest

from leastattr.errors import NoForm, NoKind, NoState
from leastattr.grammars import Grammar
from leastattr.modules import echelon
from leastattr.trees import answers_of, context_map, fill, kinds_of_context, value
from leastattr.wants import all_wanted, is_spanning_contexts, is_wanted, spanning_contexts, told_apart, wanted
from brute import all_rows, asked_of, elements_of, form_at, generators_of, product, small_grammar, trees_of
from samples import (DOUBLING_NODES, are_tidy, bare_grammar, doubled_leaves, doubling_grammar, mixed_grammar,
                     no_integers, nodes_grammar, nodes_of, odd_values, places_grammar, random_context, random_tree,
                     sums_grammar)

SEEDS = range(160)
HOLE = [("", "t")]


def small_kinds():
    """Small grammars with each of their kinds, its number of attributes, and what contexts ask, with nodes."""
    for seed in SEEDS:
        grammar = small_grammar(seed)
        for (name, attributes), rows in zip(grammar.kinds, asked_of(grammar, trees_of(grammar))):
            yield grammar, name, len(attributes), rows


def linear_part(grammar, pair):
    """The linear part of an answer in a context, straight from points 12 and 28."""
    context, index = pair
    columns = list(zip(*[form[1:] for form in context_map(grammar, context)]))
    return tuple(product(grammar.width, grammar.answers[index][1:], column) for column in columns)


def random_pairs(grammar, kind, dice, many):
    """Some tuples (context, index), of those that some tries lead to."""
    found = []
    for _ in range(20 * many):
        context = random_context(grammar, kind, dice.randrange(1, 6), dice.random())
        if len(found) < many and kinds_of_context(grammar, context) == (kind, grammar.top):
            context = tuple(context) if dice.randrange(2) else context
            found.append((context, dice.randrange(len(grammar.answers))))
    return found


class WantedTest(unittest.TestCase):

    def test_against_all_contexts(self):
        empty = 0
        for grammar, name, size, rows in small_kinds():
            width, found = grammar.width, wanted(grammar, name)
            self.assertEqual(elements_of(width, size, found), elements_of(width, size, list(rows)))
            self.assertEqual(found, echelon(width, size, found))
            self.assertIs(type(found), list)
            self.assertTrue(all(type(row) is tuple for row in found))
            if not rows:
                empty += 1
                self.assertEqual(found, [])
        self.assertGreater(empty, 9)

    def test_the_examples(self):
        self.assertEqual(wanted(nodes_grammar(), "t"), [(1, 0)])
        self.assertEqual(wanted(places_grammar(), "t"), [(1, 0, 0), (0, 1, 0), (0, 0, 1)])

    def test_all_wanted(self):
        for grammar in [small_grammar(seed) for seed in SEEDS[:40]] + [bare_grammar(), sums_grammar(), mixed_grammar()]:
            found = all_wanted(grammar)
            self.assertIs(type(found), list)
            self.assertEqual(found, [wanted(grammar, name) for name, _ in grammar.kinds])
        self.assertEqual(all_wanted(sums_grammar()), [[(1,)], [(2, 1), (0, 128)]])

    def test_a_kind_from_which_no_context_leads_to_the_top_kind(self):
        self.assertEqual(wanted(bare_grammar(), "lone"), [])
        self.assertEqual(spanning_contexts(bare_grammar(), "lone"), [])

    def test_a_kind_without_trees_may_be_wanted(self):
        self.assertEqual(wanted(bare_grammar(), "none"), [(1, 0), (0, 1)])

    def test_a_rule_one_of_whose_children_has_no_trees_serves_for_this_child_alone(self):
        kinds = [("a", ("x",)), ("b", ("y",)), ("c", ("z",))]
        rules = [("leaf", "c", (), 0, (((1, (), -1),),)),
                 ("pair", "a", ("b", "c"), 0, (((1, (0, 0), -1), (1, (-1, 0), -1)),))]
        self.assertEqual(all_wanted(Grammar(4, kinds, rules, "a", [(0, 1)])), [[(1,)], [(1,)], []])
        rules[0] = ("leaf", "b", (), 0, (((1, (), -1),),))
        self.assertEqual(all_wanted(Grammar(4, kinds, rules, "a", [(0, 1)])), [[(1,)], [], [(2,)]])
        rules[1] = ("pair", "a", ("c", "c"), 0, (((1, (0, 0), -1), (1, (-1, 0), -1)),))
        self.assertEqual(all_wanted(Grammar(4, kinds, rules, "a", [(0, 1)])), [[(1,)], [], []])

    def test_the_top_kind_alone_is_asked_without_steps(self):
        grammar = Grammar(4, [("a", ("x", "y"))], [("no", "a", ("a", "a"), 0, ((), ()))], "a",
                          [(3, 2, -2), (0, 0, 8), (5, 0, 0)])
        self.assertEqual(wanted(grammar, "a"), [(2, 6), (0, 8)])

    def test_a_context_may_be_there_that_asks_nothing(self):
        grammar = Grammar(4, [("a", ("x",))], [("leaf", "a", (), 0, ((),))], "a", [(3, 0)])
        self.assertEqual(wanted(grammar, "a"), [])
        self.assertEqual(spanning_contexts(grammar, "a"), [])

    def test_widths_1_and_64(self):
        self.assertEqual(wanted(nodes_grammar(64), "t"), [(1, 0)])
        self.assertEqual(all_wanted(sums_grammar(64)), [[(1,)], [(2, 1), (0, 2 ** 63)]])
        self.assertEqual(all_wanted(sums_grammar(1)), [[(1,)], [(0, 1)]])
        grammar = Grammar(64, [("a", ("x",))], [("up", "a", ("a",), 0, (((2 ** 62, (0,), -1),),))], "a", [(0, 6)])
        self.assertEqual(wanted(grammar, "a"), [(2,)])

    def test_numbers_at_a_node_may_be_any(self):
        grammar = Grammar(8, [("a", ("x", "y"))], [
            ("up", "a", ("a",), 2, (((1, (0,), -1), (4, (1,), 1)), ())),
        ], "a", [(0, 2, 0)])
        self.assertEqual(wanted(grammar, "a"), [(2, 0), (0, 8)])


class IsWantedTest(unittest.TestCase):

    def test_against_all_contexts(self):
        for grammar, name, size, rows in small_kinds():
            inside = elements_of(grammar.width, size, list(rows))
            for form in all_rows(grammar.width, size + 1):
                self.assertIs(is_wanted(grammar, name, form), form[1:] in inside)

    def test_the_example(self):
        self.assertIs(is_wanted(nodes_grammar(), "t", (7, 4, 0)), True)

    def test_forms_are_lists_or_tuples_of_any_integers(self):
        self.assertIs(is_wanted(nodes_grammar(), "t", [10 ** 40, -3, 2 ** 70]), True)
        self.assertIs(is_wanted(nodes_grammar(), "t", (10 ** 40, -3, 2 ** 70 + 1)), False)

    def test_kinds_that_nothing_is_asked_of(self):
        self.assertIs(is_wanted(bare_grammar(), "lone", (9, 0)), True)
        self.assertIs(is_wanted(bare_grammar(), "lone", (9, 1)), False)


class SpanningContextsTest(unittest.TestCase):

    def check_pair(self, grammar, name, pair):
        self.assertIs(type(pair), tuple)
        context, index = pair
        self.assertTrue(are_tidy(context))
        self.assertEqual(kinds_of_context(grammar, context), (name, grammar.top))
        self.assertIn(index, range(len(grammar.answers)))

    def test_as_few_as_there_can_be(self):
        for grammar, name, size, rows in small_kinds():
            width, found = grammar.width, spanning_contexts(grammar, name)
            self.assertIs(type(found), list)
            for pair in found:
                self.check_pair(grammar, name, pair)
            inside = elements_of(width, size, list(rows))
            self.assertEqual(elements_of(width, size, [linear_part(grammar, pair) for pair in found]), inside)
            self.assertEqual(len(found), generators_of(width, inside))
            self.assertIs(is_spanning_contexts(grammar, name, found), True)
            for at in range(len(found)):
                self.assertIs(is_spanning_contexts(grammar, name, found[:at] + found[at + 1:]), False)

    def test_no_fewer_linear_parts_generate_the_module(self):
        for grammar, name, size, rows in small_kinds():
            many = len(spanning_contexts(grammar, name))
            if 2 <= many and len(rows) <= 12:
                inside = elements_of(grammar.width, size, list(rows))
                for picked in itertools.combinations(rows, many - 1):
                    self.assertNotEqual(elements_of(grammar.width, size, picked), inside)

    def test_the_examples(self):
        self.assertEqual(spanning_contexts(nodes_grammar(), "t"), [(HOLE, 0)])
        self.assertEqual(len(spanning_contexts(places_grammar(), "t")), 3)

    def test_contexts_with_many_nodes(self):
        for kind in "abcde":
            found = spanning_contexts(doubling_grammar(64), kind)
            self.assertEqual(len(found), 3)
            for pair in found:
                self.check_pair(doubling_grammar(64), kind, pair)
        self.assertEqual(max(nodes_of(context) for context, _ in spanning_contexts(doubling_grammar(64), "a")),
                         DOUBLING_NODES - 1)

    def test_is_spanning_contexts_against_all_contexts(self):
        dice = random.Random(4)
        told = set()
        for seed in SEEDS[:60]:
            grammar = small_grammar(seed)
            trees = trees_of(grammar)
            names = [name for name, _ in grammar.kinds]
            if trees[names.index(grammar.top)]:
                for (name, attributes), rows in zip(grammar.kinds, asked_of(grammar, trees)):
                    inside = elements_of(grammar.width, len(attributes), list(rows))
                    for many in (1, 2, 3):
                        pairs = random_pairs(grammar, name, dice, many)
                        parts = [linear_part(grammar, pair) for pair in pairs]
                        wish = elements_of(grammar.width, len(attributes), parts) == inside
                        self.assertIs(is_spanning_contexts(grammar, name, pairs), wish)
                        told.add((wish, len(pairs)))
        self.assertEqual(told, {(wish, many) for wish in (False, True) for many in range(4)})

    def test_the_example_of_places(self):
        self.assertIs(is_spanning_contexts(places_grammar(), "t", [(HOLE, 0)]), False)
        self.assertIs(is_spanning_contexts(nodes_grammar(), "t", [(HOLE, 0)]), True)

    def test_more_pairs_than_are_needed(self):
        places = places_grammar()
        pairs = spanning_contexts(places, "t")
        more = [(("leaf", (), (3,)), ("", "t"), ("join", (0, 1), ()), ("join", (2, 0), ())), 0]
        self.assertIs(is_spanning_contexts(places, "t", pairs + pairs + [tuple(more)]), True)

    def test_contexts_may_be_lists_or_tuples_but_not_the_pairs(self):
        nodes = nodes_grammar()
        self.assertIs(is_spanning_contexts(nodes, "t", [(tuple(HOLE), 0)]), True)
        self.assertIs(is_spanning_contexts(nodes, "t", [[HOLE, 0]]), False)
        self.assertIs(is_spanning_contexts(nodes, "t", ((HOLE, 0),)), False)

    def test_contexts_of_2000_steps(self):
        nodes = nodes_grammar()
        context = [("", "t"), ("leaf", (), ())] + [("join", (at, 1), ()) for at in [0] + list(range(2, 1999))]
        self.assertEqual(len(context), 2000)
        self.assertIs(is_spanning_contexts(nodes, "t", [(context, 0)]), True)
        self.assertIs(is_spanning_contexts(nodes, "t", [(context + [("join", (1999, 1), ())], 0)]), False)
        context = doubled_leaves(1998) + [("", "t"), ("join", (1997, 1998), ())]
        self.assertIs(is_spanning_contexts(nodes, "t", [(context, 0)]), True)

    def test_no_pairs(self):
        self.assertIs(is_spanning_contexts(bare_grammar(), "lone", []), True)
        self.assertIs(is_spanning_contexts(bare_grammar(), "lone", ()), False)
        self.assertIs(is_spanning_contexts(bare_grammar(), "top", []), False)

    def test_contexts_of_other_kinds(self):
        sums = sums_grammar()
        around = [("nil", (), ()), ("", "leaf"), ("put", (0, 1), ())]
        self.assertIs(is_spanning_contexts(sums, "leaf", [(around, 0)]), True)
        self.assertIs(is_spanning_contexts(sums, "row", [(around, 0)]), False)
        self.assertIs(is_spanning_contexts(sums, "leaf", [(around, 0), ([("", "row")], 0)]), False)
        self.assertIs(is_spanning_contexts(sums, "leaf", [(around, 0), ([("", "leaf")], 0)]), False)

    def test_what_is_no_list_of_pairs(self):
        nodes = nodes_grammar()
        for thing in odd_values():
            self.assertIs(is_spanning_contexts(nodes, "t", thing), False)
            for item in (thing, (HOLE,), (HOLE, 0, 0), (thing, 0), ([thing], 0), (HOLE + [thing], 0)):
                self.assertIs(is_spanning_contexts(nodes, "t", [(HOLE, 0), item]), False)
        for thing in no_integers() + [1, -1, 10 ** 30]:
            self.assertIs(is_spanning_contexts(nodes, "t", [(HOLE, 0), (HOLE, thing)]), False)
        twice = [("", "t"), ("join", (0, 0), ())]
        self.assertIs(is_spanning_contexts(nodes, "t", [(HOLE, 0), (twice, 0)]), False)
        self.assertIs(is_spanning_contexts(nodes, "t", [(HOLE, 0), ([("leaf", (), ())], 0)]), False)


class ToldApartTest(unittest.TestCase):

    def check_told(self, grammar, name, one, other, found, nodes):
        self.assertIs(type(found), tuple)
        context, index = found
        self.assertTrue(are_tidy(context))
        self.assertEqual(nodes_of(context), nodes)
        self.assertEqual(kinds_of_context(grammar, context), (name, grammar.top))
        answers = []
        for state in (one, other):
            outside = [form_at(form, state, grammar.width) for form in context_map(grammar, context)]
            answers.append(form_at(grammar.answers[index], outside, grammar.width))
        self.assertNotEqual(*answers)

    def test_against_all_contexts(self):
        dice = random.Random(5)
        sizes = set()
        for grammar, name, size, rows in small_kinds():
            width = grammar.width
            for more in all_rows(width, size):
                other = tuple(dice.randrange(-9, 9) for _ in range(size))
                one = tuple(a + b for a, b in zip(other, more))
                found = told_apart(grammar, name, one, other)
                nodes = [many for row, many in rows.items() if product(width, row, more)]
                if nodes:
                    self.check_told(grammar, name, one, other, found, min(nodes))
                    sizes.add(min(nodes))
                else:
                    self.assertIsNone(found)
        self.assertTrue(sizes >= {0, 1, 2, 4}, sizes)

    def test_it_is_none_exactly_if_nothing_wanted_differs(self):
        for grammar, name, size, _ in small_kinds():
            rows = wanted(grammar, name)
            for state in all_rows(grammar.width, size):
                same = all(product(grammar.width, row, state) == 0 for row in rows)
                self.assertIs(told_apart(grammar, name, state, (0,) * size) is None, same)

    def test_trees_are_told_apart_by_their_answers(self):
        mixed = mixed_grammar(5)
        for seed in range(30):
            one, other = random_tree(mixed, "a", 5, seed), random_tree(mixed, "a", 5, seed + 100)
            found = told_apart(mixed, "a", value(mixed, one), value(mixed, other))
            if found is not None:
                told = [answers_of(mixed, fill(mixed, found[0], steps))[found[1]] for steps in (one, other)]
                self.assertNotEqual(*told)

    def test_the_examples(self):
        self.assertIsNone(told_apart(nodes_grammar(), "t", (1, 1), (1, 2)))
        self.assertEqual(told_apart(nodes_grammar(), "t", (1, 1), (2, 1)), (HOLE, 0))
        found = told_apart(places_grammar(), "t", (1, 0, 0), (2, 0, 0))
        self.check_told(places_grammar(), "t", (1, 0, 0), (2, 0, 0), found, 2)

    def test_many_more_nodes_than_steps(self):
        for width in (1, 64):
            grammar = doubling_grammar(width)
            zero = (0, 0, 0)
            for kind, stage in zip("abcde", range(0, 15, 3)):
                for place in range(3):
                    one = tuple(int(at == place) for at in range(3))
                    nodes = sum(2 ** (level + 1) for level in range(stage + place, 14))
                    self.check_told(grammar, kind, one, zero, told_apart(grammar, kind, one, zero), nodes)

    def test_the_answer_that_differs(self):
        grammar = Grammar(4, [("a", ("x", "y"))], [("leaf", "a", (), 0, ((), ()))], "a",
                          [(1, 8, 0), (2, 0, 0), (3, 0, 2)])
        self.assertEqual(told_apart(grammar, "a", (1, 0), (0, 0)), ([("", "a")], 0))
        self.assertEqual(told_apart(grammar, "a", (0, 1), (0, 0)), ([("", "a")], 2))
        self.assertIsNone(told_apart(grammar, "a", (2, 8), (0, 0)))

    def test_kinds_without_trees_or_contexts(self):
        bare = bare_grammar()
        self.assertIsNone(told_apart(bare, "lone", (1,), (2,)))
        self.check_told(bare, "none", (1, 2), (1, 3), told_apart(bare, "none", (1, 2), (1, 3)), 2)

    def test_lists_or_tuples_of_any_integers(self):
        nodes = nodes_grammar()
        self.assertIsNone(told_apart(nodes, "t", [1, 5], (1 - 2 ** 70, 10 ** 30)))
        self.assertEqual(told_apart(nodes, "t", [1, 5], (2 - 2 ** 70, 10 ** 30)), (HOLE, 0))


class WrongArgumentsTest(unittest.TestCase):

    def test_no_kind(self):
        sums = sums_grammar()
        calls = [lambda kind: wanted(sums, kind), lambda kind: is_wanted(sums, kind, (0, 1)),
                 lambda kind: is_wanted(sums, kind, None), lambda kind: spanning_contexts(sums, kind),
                 lambda kind: is_spanning_contexts(sums, kind, []),
                 lambda kind: is_spanning_contexts(sums, kind, None),
                 lambda kind: told_apart(sums, kind, (0,), (1,)), lambda kind: told_apart(sums, kind, None, None)]
        for thing in odd_values() + ["n", "one", "rows", "top"]:
            if thing != "leaf":
                for called in calls:
                    with self.assertRaises(NoKind) as caught:
                        called(thing)
                    self.assertIs(caught.exception.kind, thing)

    def form_fails(self, index, form):
        with self.assertRaises(NoForm) as caught:
            is_wanted(sums_grammar(), "row", form)
        self.assertEqual(caught.exception.index, index)

    def test_no_form(self):
        for thing in odd_values():
            self.form_fails(-1, thing)
        for thing in ((0, 1), (0, 1, 2, 3), [0, 1], {0: 1, 1: 2, 2: 3}, {0, 1, 2}, "012", b"012", range(3)):
            self.form_fails(-1, thing)
        for thing in no_integers():
            self.form_fails(0, (thing, 0, 0))
            self.form_fails(1, [0, thing, thing])
            self.form_fails(2, (0, 10 ** 30, thing))

    def state_fails(self, index, one, other):
        with self.assertRaises(NoState) as caught:
            told_apart(sums_grammar(), "row", one, other)
        self.assertEqual(caught.exception.index, index)

    def test_no_state(self):
        for thing in odd_values() + [(0,), (0, 1, 2), {0: 1, 1: 2}, {0, 1}, "01", b"01", range(2)]:
            self.state_fails(-1, thing, (0, 1))
            self.state_fails(-1, [0, 1], thing)
        for thing in no_integers():
            self.state_fails(0, (thing, thing), (0, 1))
            self.state_fails(1, [0, thing], (0, 1))
            self.state_fails(0, (0, 1), [thing, 1])
            self.state_fails(1, (0, 1), (1, thing))

    def test_the_first_state_comes_first(self):
        self.state_fails(1, (0, None), (None, 0))
        self.state_fails(0, (None, 0), None)
        self.state_fails(-1, None, (None, 0))


class GeneralRulesTest(unittest.TestCase):

    def test_by_name(self):
        nodes = nodes_grammar()
        self.assertEqual(wanted(kind="t", grammar=nodes), [(1, 0)])
        self.assertEqual(all_wanted(grammar=nodes), [[(1, 0)]])
        self.assertIs(is_wanted(form=(0, 1, 0), kind="t", grammar=nodes), True)
        self.assertEqual(spanning_contexts(kind="t", grammar=nodes), [(HOLE, 0)])
        self.assertIs(is_spanning_contexts(pairs=[(HOLE, 0)], kind="t", grammar=nodes), True)
        self.assertEqual(told_apart(other=(2, 1), one=(1, 1), kind="t", grammar=nodes), (HOLE, 0))

    def test_equal_arguments_give_equal_results(self):
        for seed in SEEDS[:30]:
            one, other = small_grammar(seed), small_grammar(seed)
            for name, attributes in one.kinds:
                states = [0] * len(attributes), [1] * len(attributes)
                self.assertEqual(spanning_contexts(one, name), spanning_contexts(other, name))
                self.assertEqual(told_apart(one, name, *states), told_apart(other, name, *map(tuple, states)))

    def test_arguments_stay_as_they_were(self):
        nodes, form, state, pairs = nodes_grammar(), [0, 257, -1], [-1, 300], [(list(HOLE), 0)]
        is_wanted(nodes, "t", form)
        told_apart(nodes, "t", state, state)
        is_spanning_contexts(nodes, "t", pairs)
        self.assertEqual((form, state, pairs), ([0, 257, -1], [-1, 300], [(HOLE, 0)]))
        self.assertEqual(nodes, nodes_grammar())

    def test_returned_lists_are_new(self):
        places = places_grammar()
        for called in (wanted, spanning_contexts):
            wish = copy.deepcopy(called(places, "t"))
            called(places, "t").clear()
            self.assertEqual(called(places, "t"), wish)
        all_wanted(places)[0].clear()
        self.assertEqual(all_wanted(places), [wanted(places, "t")])
        pairs = copy.deepcopy(spanning_contexts(places, "t"))
        for context, _ in spanning_contexts(places, "t"):
            context.clear()
        self.assertEqual(spanning_contexts(places, "t"), pairs)
        told_apart(places, "t", (1, 0, 0), (2, 0, 0))[0].clear()
        self.assertEqual(nodes_of(told_apart(places, "t", (1, 0, 0), (2, 0, 0))[0]), 2)


if __name__ == "__main__":
    unittest.main()
