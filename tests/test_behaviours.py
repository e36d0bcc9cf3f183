"""Stage 6: points 33 to 35, judged by all attributes of trees and all contexts of small grammars."""

import copy
import itertools
import random
import unittest

from leastattr.behaviours import least, least_numbers, paper, shown, table
from leastattr.codes import Code
from leastattr.errors import NoKind, NoPaper
from leastattr.grammars import Grammar
from leastattr.trees import answers_of, fill, kind_of, kinds_of_context
from brute import (asked_of, elements_of, form_at, generators_of, minus, product, small_grammar, trees_of, trees_with)
from samples import (DOUBLING_NODES, FIVE, LOOP, are_tidy, bare_grammar, both_grammar, doubled_leaves,
                     doubling_grammar, lists_grammar, mixed_grammar, no_integers, nodes_grammar, nodes_of, odd_values,
                     once_grammar, places_grammar, random_context, random_tree, sums_grammar)

SEEDS = range(200)
NIL = [("nil", (), ())]
ROW = [("", "row")]
SMALL = (NIL, [FIVE], [(LOOP, 0)])


def worlds():
    """Small grammars, the attributes of all of their trees, and what all contexts ask."""
    for seed in SEEDS:
        grammar = small_grammar(seed)
        trees = trees_of(grammar)
        yield grammar, trees, asked_of(grammar, trees)


def told_number(grammar, states, rows):
    """The number of generators of what contexts tell of the differences of trees, straight from point 33."""
    if not states:
        return 0
    width, first = grammar.width, next(iter(states))
    differences = elements_of(width, len(first), [minus(width, state, first) for state in states])
    return generators_of(width, {tuple(product(width, row, more) for row in rows) for more in differences})


def some_papers(grammar, name, dice):
    """Papers of random trees and contexts."""
    for many in range(6):
        trees = [random_tree(grammar, name, dice.randrange(1, 5), dice.random()) for _ in range(many)]
        contexts = [random_context(grammar, name, dice.randrange(1, 5), dice.random()) for _ in range(30)]
        contexts = [context for context in contexts if kinds_of_context(grammar, context) == (name, grammar.top)]
        yield trees, [(context, dice.randrange(len(grammar.answers))) for context in contexts[:dice.randrange(5)]]


def table_of(grammar, told):
    """The table of a paper, by filling its contexts with its trees."""
    return [tuple(answers_of(grammar, fill(grammar, context, tree))[index] for context, index in told[1])
            for tree in told[0]]


class LeastTest(unittest.TestCase):

    def test_against_all_trees_and_contexts(self):
        numbers = set()
        for grammar, trees, asked in worlds():
            wish = [told_number(grammar, states, list(rows)) for states, rows in zip(trees, asked)]
            self.assertEqual(least_numbers(grammar), wish)
            self.assertEqual([least(grammar, name) for name, _ in grammar.kinds], wish)
            numbers.update(wish)
        self.assertEqual(numbers, {0, 1, 2, 3})

    def test_the_examples(self):
        self.assertEqual(least_numbers(sums_grammar()), [1, 1])
        self.assertEqual(least_numbers(nodes_grammar()), [1])
        self.assertEqual(least_numbers(places_grammar()), [3])
        self.assertEqual(least_numbers(lists_grammar()), [1])
        self.assertEqual(least_numbers(both_grammar()), [1, 1])
        self.assertEqual(least_numbers(once_grammar()), [1])

    def test_kinds_without_trees_or_contexts(self):
        self.assertEqual(least_numbers(bare_grammar()), [1, 0, 0])
        self.assertEqual(least(bare_grammar(), "none"), 0)

    def test_one_register_is_not_two_halves(self):
        # The differences are (8, 0) and (0, 8) modulo 16; no determinant tells that two registers are needed.
        rules = [("leaf", "t", (), 2, (((8, (), 0),), ((8, (), 1),))),
                 ("turn", "t", ("t",), 0, (((1, (1,), -1),), ((1, (0,), -1),)))]
        kinds = [("t", ("x", "y"))]
        self.assertEqual(least_numbers(Grammar(4, kinds, rules, "t", [(0, 1, 0)])), [2])
        self.assertEqual(least_numbers(Grammar(4, kinds, rules, "t", [(0, 2, 0)])), [0])
        self.assertEqual(least_numbers(Grammar(4, kinds, rules[:1], "t", [(0, 1, 3)])), [1])

    def test_widths_1_and_64(self):
        self.assertEqual(least_numbers(sums_grammar(1)), [1, 1])
        self.assertEqual(least_numbers(nodes_grammar(1)), [0])
        for grammar, wish in ((sums_grammar(64), [1, 1]), (places_grammar(64), [3]), (mixed_grammar(64), [2, 1]),
                              (doubling_grammar(64), [3] * 5), (bare_grammar(64), [1, 0, 0])):
            self.assertEqual(least_numbers(grammar), wish)

    def test_no_code_with_fewer_registers_is_right(self):
        turning = Grammar(1, [("t", ("x", "y"))], [
            ("leaf", "t", (), 2, (((1, (), 0),), ((1, (), 1),))),
            ("turn", "t", ("t",), 0, (((1, (1,), -1),), ((1, (0,), -1),))),
        ], "t", [(0, 1, 0)])
        self.assertEqual(least_numbers(turning), [2])
        terms = [(1, (), -1), (1, (), 0), (1, (), 1)]
        leaves = [tuple(itertools.compress(terms, chosen)) for chosen in itertools.product((0, 1), repeat=3)]
        turns = [(), ((1, (-1,), -1),), ((1, (0,), -1),), ((1, (-1,), -1), (1, (0,), -1))]
        for leaf, turn, answer in itertools.product(leaves, turns, itertools.product((0, 1), repeat=2)):
            code = Code(1, [1], [(0, (), 2, (leaf,)), (0, (0,), 0, (turn,))], 0, [answer])
            found = trees_with(turning, code.rules)[0]
            self.assertTrue(any(state[0] != form_at(answer, own, 1) for state, own in found))


class TableTest(unittest.TestCase):

    def test_against_filled_contexts(self):
        dice = random.Random(6)
        for grammar in (sums_grammar(), mixed_grammar(), mixed_grammar(64), places_grammar(1), nodes_grammar()):
            for name, _ in grammar.kinds:
                for told in some_papers(grammar, name, dice):
                    found = table(grammar, name, told)
                    self.assertEqual(found, table_of(grammar, told))
                    self.assertIs(type(found), list)
                    self.assertTrue(all(type(row) is tuple for row in found))

    def test_no_trees_or_no_contexts(self):
        sums = sums_grammar()
        self.assertEqual(table(sums, "row", ([], [])), [])
        self.assertEqual(table(sums, "row", ([], [(ROW, 0)])), [])
        self.assertEqual(table(sums, "row", ([NIL, FIVE], [])), [(), ()])
        self.assertEqual(table(sums, "row", ([NIL, FIVE], [(ROW, 0), (LOOP, 0)])), [(0, 9), (14, 23)])

    def test_trees_and_contexts_may_be_tuples(self):
        sums = sums_grammar()
        self.assertEqual(table(sums, "row", ([tuple(NIL), FIVE], [(tuple(LOOP), 0)])), [(9,), (23,)])

    def test_2000_steps(self):
        context = [("", "t"), ("leaf", (), ())] + [("join", (at, 1), ()) for at in [0] + list(range(2, 1999))]
        told = ([doubled_leaves(2000), doubled_leaves(1)], [(context, 0), ([("", "t")], 0)])
        self.assertEqual(table(nodes_grammar(64), "t", told), [(2 * 1998 - 1, 2 ** 64 - 1), (2 * 1998 + 1, 1)])
        self.assertEqual(shown(nodes_grammar(64), "t", told), 1)

    def test_the_answers_of_the_indexes(self):
        mixed = mixed_grammar()
        tree = [("lb", (), ())]
        self.assertEqual(table(mixed, "b", ([tree], [([("", "b")], 1), ([("", "b")], 0)])), [(14, 11)])


class ShownTest(unittest.TestCase):

    def test_against_tables(self):
        dice = random.Random(7)
        told_numbers = set()
        for grammar in (sums_grammar(3), mixed_grammar(2), places_grammar(2), places_grammar(1), nodes_grammar(3)):
            for name, _ in grammar.kinds:
                for _ in range(8):
                    for told in some_papers(grammar, name, dice):
                        rows = table_of(grammar, told)
                        wish = 0
                        if rows:
                            later = [minus(grammar.width, row, rows[0]) for row in rows[1:]]
                            wish = generators_of(grammar.width, elements_of(grammar.width, len(rows[0]), later))
                        self.assertEqual(shown(grammar, name, told), wish)
                        self.assertLessEqual(wish, least(grammar, name))
                        told_numbers.add(wish)
        self.assertEqual(told_numbers, {0, 1, 2, 3})

    def test_no_trees(self):
        self.assertEqual(shown(sums_grammar(), "row", ([], [])), 0)
        self.assertEqual(shown(sums_grammar(), "row", ([], [(ROW, 0)])), 0)
        self.assertEqual(shown(sums_grammar(), "row", ([FIVE], [(ROW, 0)])), 0)
        self.assertEqual(shown(sums_grammar(), "row", ([FIVE, FIVE], [(ROW, 0)])), 0)
        self.assertEqual(shown(sums_grammar(), "row", ([NIL, FIVE], [])), 0)
        self.assertEqual(shown(sums_grammar(), "row", ([NIL, FIVE], [(ROW, 0)])), 1)

    def test_powers_of_two_count(self):
        rules = [("leaf", "t", (), 2, (((8, (), 0),), ((8, (), 1),))),
                 ("turn", "t", ("t",), 0, (((1, (1,), -1),), ((1, (0,), -1),)))]
        grammar = Grammar(4, [("t", ("x", "y"))], rules, "t", [(0, 1, 0)])
        trees = [[("leaf", (), numbers)] for numbers in ((0, 0), (1, 0), (0, 1))]
        contexts = [([("", "t")], 0), ([("", "t"), ("turn", (0,), ())], 0)]
        self.assertEqual(shown(grammar, "t", (trees, contexts)), 2)


class PaperTest(unittest.TestCase):

    def check_paper(self, grammar, name, states):
        found = paper(grammar, name)
        self.assertIs(type(found), tuple)
        trees, contexts = found
        self.assertEqual([type(trees), type(contexts)], [list, list])
        self.assertEqual(len(contexts), least(grammar, name))
        self.assertEqual(len(trees), len(contexts) + 1 if states else 0)
        self.assertEqual(shown(grammar, name, found), len(contexts))
        for steps in trees:
            self.assertTrue(are_tidy(steps))
            self.assertEqual(kind_of(grammar, steps), name)
        for pair in contexts:
            self.assertIs(type(pair), tuple)
            self.assertTrue(are_tidy(pair[0]))
            self.assertEqual(kinds_of_context(grammar, pair[0]), (name, grammar.top))
            self.assertIn(pair[1], range(len(grammar.answers)))

    def test_papers_show_the_least_number(self):
        for grammar, trees, _ in worlds():
            for (name, _), states in zip(grammar.kinds, trees):
                self.check_paper(grammar, name, states)

    def test_papers_of_the_examples(self):
        for grammar in (sums_grammar(), sums_grammar(64), nodes_grammar(), places_grammar(), places_grammar(64),
                        both_grammar(), mixed_grammar(), mixed_grammar(64)):
            for name, _ in grammar.kinds:
                self.check_paper(grammar, name, True)

    def test_kinds_without_trees_or_contexts(self):
        self.assertEqual(paper(bare_grammar(), "none"), ([], []))
        self.assertEqual([len(part) for part in paper(bare_grammar(), "lone")], [1, 0])

    def test_trees_and_contexts_with_many_nodes(self):
        grammar = doubling_grammar(64)
        for name in "abcde":
            self.check_paper(grammar, name, True)
        self.assertEqual(max(nodes_of(steps) for steps in paper(grammar, "e")[0]), DOUBLING_NODES)
        self.assertEqual(max(nodes_of(context) for context, _ in paper(grammar, "a")[1]), DOUBLING_NODES - 1)


class WrongArgumentsTest(unittest.TestCase):

    def fails(self, part, index, told, kind="row", grammar=None):
        for called in (table, shown):
            with self.assertRaises(NoPaper) as caught:
                called(grammar or sums_grammar(), kind, told)
            self.assertEqual((caught.exception.part, caught.exception.index), (part, index))

    def test_no_kind(self):
        sums = sums_grammar()
        calls = [lambda kind: least(sums, kind), lambda kind: table(sums, kind, ([], [])),
                 lambda kind: table(sums, kind, None), lambda kind: shown(sums, kind, ([], [])),
                 lambda kind: shown(sums, kind, None), lambda kind: paper(sums, kind)]
        for thing in odd_values() + ["n", "one", "rows", "top"]:
            if thing != "leaf":
                for called in calls:
                    with self.assertRaises(NoKind) as caught:
                        called(thing)
                    self.assertIs(caught.exception.kind, thing)

    def test_no_tuple_of_two_lists(self):
        for thing in odd_values():
            self.fails("paper", -1, thing)
            if not isinstance(thing, list):
                self.fails("paper", -1, ([], thing))
                self.fails("paper", -1, (thing, [thing]))
        for thing in (([],), ([], [], []), [[], []], ((), []), ([], ()), [NIL, [(ROW, 0)]], {0: [], 1: []}):
            self.fails("paper", -1, thing)

    def test_no_trees_of_the_kind(self):
        for thing in odd_values():
            self.fails("trees", 0, ([thing], []))
            self.fails("trees", 1, ([NIL, thing, thing], [thing]))
            self.fails("trees", 2, ([NIL, FIVE, [thing]], []))
        self.fails("trees", 1, ([NIL, [("one", (), (5,))], None], []))
        self.fails("trees", 0, ([FIVE], []), "leaf")
        self.fails("trees", 0, ([ROW], []))
        self.fails("trees", 1, ([NIL, doubled_leaves(2001)], []), "t", Grammar(8, [("t", ("n",))], [
            ("nil", "t", (), 0, ((),)), ("leaf", "t", (), 0, ((),)), ("join", "t", ("t", "t"), 0, ((),)),
        ], "t", [(0, 0)]))

    def test_no_contexts_of_the_kind(self):
        for thing in odd_values():
            for item in (thing, (thing, 0), ([thing], 0), (LOOP + [thing], 0)):
                self.fails("contexts", 0, ([], [item]))
                self.fails("contexts", 1, ([NIL], [(ROW, 0), item, None]))
        for thing in no_integers() + [1, -1, 10 ** 30]:
            self.fails("contexts", 1, ([NIL], [(ROW, 0), (ROW, thing)]))
        for item in ([ROW, 0], (ROW,), (ROW, 0, 0), (FIVE, 0), ([("", "leaf")], 0),
                     ([("nil", (), ()), ("", "leaf"), ("put", (0, 1), ())], 0)):
            self.fails("contexts", 2, ([], [(ROW, 0), (LOOP, 0), item]))
        self.fails("contexts", 0, ([], [([("", "leaf")], 0)]), "leaf")

    def test_trees_come_before_contexts(self):
        self.fails("trees", 2, ([NIL, NIL, None], [None]))
        self.fails("paper", -1, ([None], (None,)))

    def test_a_kind_without_trees_has_its_errors(self):
        self.fails("trees", 0, ([[("leaf", (), (1,))]], []), "none", bare_grammar())
        context = [("leaf", (), (1,)), ("", "none"), ("pair", (1, 0), ())]
        self.assertEqual(table(bare_grammar(), "none", ([], [(context, 0)])), [])


class GeneralRulesTest(unittest.TestCase):

    def test_by_name(self):
        sums, told = sums_grammar(), ([NIL, FIVE], [(ROW, 0)])
        self.assertEqual(least(kind="row", grammar=sums), 1)
        self.assertEqual(least_numbers(grammar=sums), [1, 1])
        self.assertEqual(table(paper=told, kind="row", grammar=sums), [(0,), (14,)])
        self.assertEqual(shown(paper=told, kind="row", grammar=sums), 1)
        self.assertEqual(paper(kind="row", grammar=sums), paper(sums, "row"))

    def test_equal_arguments_give_equal_results(self):
        for seed in SEEDS[:30]:
            one, other = small_grammar(seed), small_grammar(seed)
            for name, _ in one.kinds:
                self.assertEqual(paper(one, name), paper(other, name))

    def test_arguments_stay_as_they_were(self):
        sums, told = sums_grammar(), ([NIL, FIVE], [(ROW, 0), (LOOP, 0)])
        before = copy.deepcopy(told)
        table(sums, "row", told)
        shown(sums, "row", told)
        self.assertEqual(told, before)
        self.assertEqual(sums, sums_grammar())

    def test_returned_lists_are_new(self):
        sums = sums_grammar()
        wish = copy.deepcopy(paper(sums, "row"))
        trees, contexts = paper(sums, "row")
        trees[0].clear()
        contexts[0][0].clear()
        trees.clear()
        contexts.clear()
        self.assertEqual(paper(sums, "row"), wish)
        least_numbers(sums).clear()
        self.assertEqual(least_numbers(sums), [1, 1])
        rows = table(sums, "row", wish)
        rows.clear()
        self.assertEqual(len(table(sums, "row", wish)), 2)


if __name__ == "__main__":
    unittest.main()
