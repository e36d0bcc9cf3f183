"""Stage 4: points 22 to 26, judged by grammars in which all attributes of trees are tried one by one."""

import copy
import random
import unittest

from leastattr.errors import NoForm, NoKind
from leastattr.grammars import Grammar
from leastattr.hulls import all_hulls, hull, is_spanning, nonzero, relations, spanning_trees
from leastattr.modules import echelon
from leastattr.trees import kind_of, value
from brute import all_rows, elements_of, form_at, generators_of, minus, small_grammar, trees_of
from samples import (DOUBLING_NODES, FIVE, are_tidy, bare_grammar, doubled_leaves, doubling_grammar, late_grammar,
                     mixed_grammar, no_integers, nodes_grammar, nodes_of, odd_values, places_grammar, random_tree,
                     sums_grammar)

SEEDS = range(160)
LEAF = ("leaf", (), ())
JOIN = ("join", (0, 0), ())


def hull_in(width, size, found):
    """The set of all tuples of a hull that was told."""
    return {minus(width, found[0], row) for row in elements_of(width, size, found[1])}


def spanned(width, states):
    """The set of all tuples of the hull of some, told by its first one and all differences from it."""
    differences = elements_of(width, len(states[0]), [minus(width, state, states[0]) for state in states])
    return {minus(width, states[0], row) for row in differences}


def small_kinds():
    """Small grammars with each of their kinds, its number of attributes, and its trees' attributes and nodes."""
    for seed in SEEDS:
        grammar = small_grammar(seed)
        for (name, attributes), states in zip(grammar.kinds, trees_of(grammar)):
            yield grammar, name, len(attributes), states


class HullTest(unittest.TestCase):

    def check_told(self, width, size, found):
        base, module = found
        self.assertIs(type(found), tuple)
        self.assertIs(type(module), list)
        for row in [base] + module:
            self.assertIs(type(row), tuple)
            self.assertEqual(len(row), size)
            self.assertTrue(all(0 <= number < 2 ** width for number in row))
        self.assertEqual(module, echelon(width, size, module))
        for row in module:
            column = next(at for at, number in enumerate(row) if number)
            self.assertLess(base[column], row[column])

    def test_against_all_attributes(self):
        empty = 0
        for grammar, name, size, states in small_kinds():
            found = hull(grammar, name)
            if not states:
                empty += 1
                self.assertIsNone(found)
                continue
            self.check_told(grammar.width, size, found)
            self.assertEqual(hull_in(grammar.width, size, found), spanned(grammar.width, list(states)))
        self.assertGreater(empty, 9)

    def test_the_examples(self):
        self.assertEqual(hull(nodes_grammar(), "t"), ((1, 1), [(2, 1), (0, 128)]))
        self.assertEqual(hull(places_grammar(), "t"), ((0, 0, 0), [(1, 0, 0), (0, 1, 0), (0, 0, 1)]))
        self.assertIsNone(hull(Grammar(8, [("t", ("n",))], [("up", "t", ("t",), 0, (((1, (0,), -1),),))],
                                       "t", [(0, 1)]), "t"))

    def test_all_hulls(self):
        for grammar in [small_grammar(seed) for seed in SEEDS[:40]] + [bare_grammar(), sums_grammar(), mixed_grammar()]:
            found = all_hulls(grammar)
            self.assertIs(type(found), list)
            self.assertEqual(found, [hull(grammar, name) for name, _ in grammar.kinds])

    def test_kinds_without_trees(self):
        self.assertEqual(all_hulls(bare_grammar()), [((0,), [(1,)]), None, ((0,), [(1,)])])

    def test_a_single_tuple(self):
        grammar = Grammar(8, [("t", ("n", "m"))], [
            ("leaf", "t", (), 1, (((-1, (), -1),), ((256, (), 0),))), ("same", "t", ("t",), 0, (((1, (0,), -1),), ())),
        ], "t", [(0, 1, 0)])
        self.assertEqual(hull(grammar, "t"), ((255, 0), []))

    def test_numbers_at_a_node_may_be_any(self):
        grammar = Grammar(8, [("t", ("n", "m"))], [("leaf", "t", (), 2, (((2, (), 0), (1, (), -1)), ((4, (), 1),)))],
                          "t", [(0, 1, 0)])
        self.assertEqual(hull(grammar, "t"), ((1, 0), [(2, 0), (0, 4)]))

    def test_widths_1_and_64(self):
        self.assertEqual(hull(nodes_grammar(1), "t"), ((1, 0), [(0, 1)]))
        self.assertEqual(hull(nodes_grammar(64), "t"), ((1, 1), [(2, 1), (0, 2 ** 63)]))
        self.assertEqual(hull(sums_grammar(64), "row"), ((0, 0), [(1, 0), (0, 1)]))
        grammar = Grammar(64, [("t", ("n",))], [
            ("leaf", "t", (), 0, (((2 ** 63 + 5, (), -1),),)), ("up", "t", ("t",), 0, (((2 ** 62 + 1, (0,), -1),),)),
        ], "t", [(0, 1)])
        # (2 ** 63 + 5) * 2 ** 62 is 2 ** 62 modulo 2 ** 64.
        self.assertEqual(hull(grammar, "t"), ((5,), [(2 ** 62,)]))

    def test_equal_hulls_of_other_trees_are_equal(self):
        def grammar(start, step):
            return Grammar(8, [("t", ("n", "m"))], [
                ("leaf", "t", (), 0, (((start, (), -1),), ((start, (), -1),))),
                ("up", "t", ("t",), 0, (((1, (0,), -1), (step, (-1,), -1)), ((1, (1,), -1), (step, (-1,), -1)))),
            ], "t", [(0, 1, 0)])
        self.assertEqual(hull(grammar(1, 4), "t"), hull(grammar(-3, 12), "t"))
        self.assertEqual(hull(grammar(1, 4), "t"), ((1, 1), [(4, 4)]))


class RelationsTest(unittest.TestCase):

    def test_against_all_attributes(self):
        for grammar, name, size, states in small_kinds():
            width = grammar.width
            found = relations(grammar, name)
            wish = {form for form in all_rows(width, size + 1)
                    if all(form_at(form, state, width) == 0 for state in states)}
            self.assertEqual(elements_of(width, size + 1, found), wish)
            self.assertEqual(found, echelon(width, size + 1, found))
            self.assertIs(type(found), list)
            self.assertTrue(all(type(row) is tuple for row in found))

    def test_a_tuple_is_in_the_hull_exactly_if_all_relations_are_0(self):
        for grammar, name, size, states in list(small_kinds())[:60]:
            if states:
                inside = hull_in(grammar.width, size, hull(grammar, name))
                forms = relations(grammar, name)
                for state in all_rows(grammar.width, size):
                    same = all(form_at(form, state, grammar.width) == 0 for form in forms)
                    self.assertIs(same, state in inside)

    def test_the_example(self):
        self.assertEqual(relations(nodes_grammar(), "t"), [(1, 1, 254)])
        self.assertEqual(relations(nodes_grammar(64), "t"), [(1, 1, 2 ** 64 - 2)])
        self.assertEqual(relations(places_grammar(), "t"), [])

    def test_a_kind_without_trees(self):
        self.assertEqual(relations(bare_grammar(), "none"), [(1, 0, 0), (0, 1, 0), (0, 0, 1)])


class NonzeroTest(unittest.TestCase):

    def check_tree(self, grammar, name, form, steps, nodes):
        self.assertTrue(are_tidy(steps))
        self.assertEqual(kind_of(grammar, steps), name)
        self.assertNotEqual(form_at(form, value(grammar, steps), grammar.width), 0)
        self.assertEqual(nodes_of(steps), nodes)

    def test_against_all_attributes(self):
        sizes = set()
        for grammar, name, size, states in small_kinds():
            for form in all_rows(grammar.width, size + 1):
                found = nonzero(grammar, name, form)
                nodes = [many for state, many in states.items() if form_at(form, state, grammar.width)]
                if nodes:
                    self.check_tree(grammar, name, form, found, min(nodes))
                    sizes.add(min(nodes))
                else:
                    self.assertIsNone(found)
        self.assertTrue(sizes >= {1, 2, 3, 4, 5}, sizes)

    def test_the_examples(self):
        self.assertIsNone(nonzero(nodes_grammar(), "t", (1, 1, 254)))
        self.assertEqual(nonzero(nodes_grammar(), "t", (0, 1, 255)), [LEAF, JOIN])

    def test_many_more_nodes_than_steps(self):
        for width in (1, 64):
            grammar = doubling_grammar(width)
            steps = nonzero(grammar, "e", (0, 0, 0, 1))
            self.check_tree(grammar, "e", (0, 0, 0, 1), steps, DOUBLING_NODES)
            self.assertEqual(len(steps), 15)
            self.check_tree(grammar, "c", (0, 0, 0, -1), nonzero(grammar, "c", (0, 0, 0, -1)), 2 ** 9 - 1)

    def test_a_small_child_that_later_ones_make_needless(self):
        grammar = late_grammar()
        for form, nodes in (((0, 1), 10), ((0, 2), 11), ((0, 4), 13)):
            self.check_tree(grammar, "t", form, nonzero(grammar, "t", form), nodes)
        states = trees_of(grammar)[4]
        for form in all_rows(3, 2):
            nodes = [many for state, many in states.items() if form_at(form, state, 3)]
            if nodes:
                self.check_tree(grammar, "t", form, nonzero(grammar, "t", form), min(nodes))
            else:
                self.assertIsNone(nonzero(grammar, "t", form))

    def test_the_smallest_tree_may_have_the_longest_way(self):
        # Ten single steps have fewer nodes than four joins of two equal trees.
        rules = [("leaf", "t", (), 0, (((1, (), -1),), ())),
                 ("up", "t", ("t",), 0, (((2, (0,), -1),), ((1, (1,), -1),))),
                 ("join", "t", ("t", "t"), 0, (((8, (0, -1), -1),), ((1, (1, -1), -1),))),
                 ("end", "u", ("t",), 0, (((1, (0,), -1),),))]
        grammar = Grammar(12, [("t", ("x", "y")), ("u", ("z",))], rules, "u", [(0, 1)])
        states = trees_of(Grammar(12, [("t", ("x", "y")), ("u", ("z",))], rules, "u", [(0, 1)]))
        for exponent in range(12):
            form = (-2 ** exponent, 1, 5)
            nodes = min(many for state, many in states[0].items() if form_at(form, state, 12))
            self.check_tree(grammar, "t", form, nonzero(grammar, "t", form), nodes)

    def test_forms_are_lists_or_tuples_of_any_integers(self):
        nodes = nodes_grammar()
        self.assertIsNone(nonzero(nodes, "t", [1 - 2 ** 80, 2 ** 70 + 1, -2 - 2 ** 64]))
        self.assertEqual(nonzero(nodes, "t", [0, 257, -1]), nonzero(nodes, "t", (0, 1, 255)))
        self.assertEqual(nonzero(nodes, "t", [10 ** 30 + 1, 0, 0]), [LEAF])
        self.assertIsNone(nonzero(nodes, "t", (256, 512, -256)))

    def test_a_kind_without_trees(self):
        self.assertIsNone(nonzero(bare_grammar(), "none", (1, 0, 0)))

    def test_a_rule_with_a_child_without_trees_makes_no_tree(self):
        grammar = bare_grammar()
        self.assertIsNone(nonzero(Grammar(8, grammar.kinds, grammar.rules[1:4], "top", [(0, 1)]), "top", (1, 0)))
        self.check_tree(grammar, "top", (0, 1), nonzero(grammar, "top", (0, 1)), 1)


class SpanningTest(unittest.TestCase):

    def test_as_few_as_there_can_be(self):
        for grammar, name, size, states in small_kinds():
            found = spanning_trees(grammar, name)
            self.assertIs(type(found), list)
            self.assertTrue(all(are_tidy(steps) for steps in found))
            self.assertTrue(all(kind_of(grammar, steps) == name for steps in found))
            if not states:
                self.assertEqual(found, [])
                continue
            width, inside = grammar.width, spanned(grammar.width, list(states))
            told = [value(grammar, steps) for steps in found]
            self.assertEqual(spanned(width, told), inside)
            differences = {minus(width, state, told[0]) for state in inside}
            self.assertEqual(len(found), 1 + generators_of(width, differences))
            self.assertIs(is_spanning(grammar, name, found), True)
            for at in range(len(found)):
                self.assertIs(is_spanning(grammar, name, found[:at] + found[at + 1:]), False)

    def test_trees_that_later_ones_make_needless(self):
        rules = [(name, "t", (), 0, (((number, (), -1),), ())) for name, number in
                 (("no", 0), ("eight", 8), ("four", 4), ("two", 2))]
        for many, wish in ((1, [0]), (2, [0, 8]), (3, [0, 4]), (4, [0, 2])):
            grammar = Grammar(4, [("t", ("x", "y"))], rules[:many], "t", [(0, 1, 0)])
            found = sorted(value(grammar, steps)[0] for steps in spanning_trees(grammar, "t"))
            self.assertEqual(len(found), len(wish))
            self.assertEqual(hull(grammar, "t")[1], [(number, 0) for number in wish[1:]])
            self.assertIs(is_spanning(grammar, "t", spanning_trees(grammar, "t")), True)

    def test_no_fewer_attributes_have_the_hull(self):
        for grammar, name, size, states in small_kinds():
            many = len(spanning_trees(grammar, name))
            if 2 <= many and len(states) <= 8:
                inside = spanned(grammar.width, list(states))
                for chosen in all_rows(1, len(states)):
                    if sum(chosen) == many - 1:
                        picked = [state for state, taken in zip(states, chosen) if taken]
                        self.assertNotEqual(spanned(grammar.width, picked), inside)

    def test_the_examples(self):
        self.assertEqual(spanning_trees(nodes_grammar(), "t"), [[LEAF], [LEAF, JOIN]])
        self.assertEqual(len(spanning_trees(places_grammar(), "t")), 4)
        self.assertEqual(spanning_trees(bare_grammar(), "none"), [])

    def test_trees_with_many_nodes(self):
        found = spanning_trees(doubling_grammar(64), "e")
        self.assertTrue(all(are_tidy(steps) for steps in found))
        self.assertEqual(len(found), 4)
        self.assertEqual(max(nodes_of(steps) for steps in found), DOUBLING_NODES)

    def test_is_spanning_against_all_attributes(self):
        dice = random.Random(3)
        told = set()
        for grammar, name, size, states in small_kinds():
            if states:
                inside = spanned(grammar.width, list(states))
                for many in (1, 2, 3, 4):
                    trees = [random_tree(grammar, name, dice.randrange(1, 6), dice.random()) for _ in range(many)]
                    wish = spanned(grammar.width, [value(grammar, steps) for steps in trees]) == inside
                    self.assertIs(is_spanning(grammar, name, trees), wish)
                    told.add((wish, many))
        self.assertEqual(len(told), 8)

    def test_more_trees_than_are_needed(self):
        nodes = nodes_grammar()
        trees = spanning_trees(nodes, "t")
        self.assertIs(is_spanning(nodes, "t", trees + trees), True)
        self.assertIs(is_spanning(nodes, "t", [doubled_leaves(2000)] + trees), True)
        self.assertIs(is_spanning(nodes, "t", [trees[0]] * 300), False)

    def test_trees_of_2000_steps(self):
        nodes = nodes_grammar(64)
        # 2 ** 2000 - 1 and 2 ** 1999 - 1 nodes are the same modulo 2 ** 64.
        self.assertIs(is_spanning(nodes, "t", [doubled_leaves(2000), doubled_leaves(1999)]), False)
        self.assertIs(is_spanning(nodes, "t", [doubled_leaves(2000), doubled_leaves(1)]), True)
        self.assertIs(is_spanning(nodes, "t", [doubled_leaves(2001), doubled_leaves(1)]), False)

    def test_trees_may_be_tuples_but_the_list_may_not(self):
        nodes = nodes_grammar()
        self.assertIs(is_spanning(nodes, "t", [(LEAF,), (LEAF, LEAF, ("join", (0, 1), ()))]), True)
        self.assertIs(is_spanning(nodes, "t", ([LEAF], [LEAF, JOIN])), False)

    def test_steps_that_the_root_does_not_use(self):
        self.assertIs(is_spanning(nodes_grammar(), "t", [[LEAF, JOIN, LEAF], [LEAF, LEAF, JOIN]]), True)
        self.assertIs(is_spanning(nodes_grammar(), "t", [[LEAF, JOIN, LEAF], [LEAF]]), False)

    def test_no_trees(self):
        self.assertIs(is_spanning(bare_grammar(), "none", []), True)
        self.assertIs(is_spanning(bare_grammar(), "none", ()), False)
        self.assertIs(is_spanning(bare_grammar(), "top", []), False)
        self.assertIs(is_spanning(bare_grammar(), "none", [[("leaf", (), (1,))]]), False)

    def test_trees_of_another_kind(self):
        sums = sums_grammar()
        trees = [[("one", (), (1,))], [("one", (), (2,))]]
        self.assertIs(is_spanning(sums, "leaf", trees), True)
        self.assertIs(is_spanning(sums, "leaf", trees + [FIVE]), False)
        self.assertIs(is_spanning(sums, "row", trees), False)

    def test_what_is_no_list_of_trees(self):
        for thing in odd_values():
            self.assertIs(is_spanning(nodes_grammar(), "t", thing), False)
            self.assertIs(is_spanning(nodes_grammar(), "t", [thing]), False)
            self.assertIs(is_spanning(nodes_grammar(), "t", [[LEAF], [LEAF, JOIN], thing]), False)
            self.assertIs(is_spanning(nodes_grammar(), "t", [[LEAF], [LEAF, thing]]), False)
        self.assertIs(is_spanning(nodes_grammar(), "t", [[LEAF], [LEAF, JOIN], [("", "t")]]), False)
        for thing in no_integers():
            self.assertIs(is_spanning(sums_grammar(), "leaf", [[("one", (), (0,))], [("one", (), (thing,))]]), False)


class WrongArgumentsTest(unittest.TestCase):

    def test_no_kind(self):
        calls = [lambda kind: hull(sums_grammar(), kind), lambda kind: relations(sums_grammar(), kind),
                 lambda kind: nonzero(sums_grammar(), kind, (0, 1)), lambda kind: nonzero(sums_grammar(), kind, None),
                 lambda kind: spanning_trees(sums_grammar(), kind), lambda kind: is_spanning(sums_grammar(), kind, []),
                 lambda kind: is_spanning(sums_grammar(), kind, None)]
        for thing in odd_values() + ["n", "one", "rows", "top"]:
            if thing != "leaf":
                for called in calls:
                    with self.assertRaises(NoKind) as caught:
                        called(thing)
                    self.assertIs(caught.exception.kind, thing)

    def form_fails(self, index, form):
        with self.assertRaises(NoForm) as caught:
            nonzero(sums_grammar(), "row", form)
        self.assertEqual(caught.exception.index, index)

    def test_no_form(self):
        for thing in odd_values():
            self.form_fails(-1, thing)
        for thing in ((0, 1), (0, 1, 2, 3), [0, 1], {0: 1, 1: 2, 2: 3}, {0, 1, 2}, "012", b"012", range(3)):
            self.form_fails(-1, thing)
        for thing in no_integers():
            self.form_fails(0, (thing, 0, 0))
            self.form_fails(1, [0, thing, thing])
            self.form_fails(2, (0, 10 ** 30, thing))
            self.form_fails(-1, (0, thing))

    def test_the_example(self):
        with self.assertRaises(NoForm) as caught:
            nonzero(nodes_grammar(), "t", (1, True, 0))
        self.assertEqual(caught.exception.index, 1)

    def test_a_kind_without_trees_has_its_errors(self):
        with self.assertRaises(NoForm) as caught:
            nonzero(bare_grammar(), "none", (1, 0))
        self.assertEqual(caught.exception.index, -1)


class GeneralRulesTest(unittest.TestCase):

    def test_by_name(self):
        nodes = nodes_grammar()
        self.assertEqual(hull(kind="t", grammar=nodes), hull(nodes, "t"))
        self.assertEqual(all_hulls(grammar=nodes), all_hulls(nodes))
        self.assertEqual(relations(kind="t", grammar=nodes), relations(nodes, "t"))
        self.assertEqual(nonzero(form=(0, 1, 255), kind="t", grammar=nodes), nonzero(nodes, "t", (0, 1, 255)))
        self.assertEqual(spanning_trees(kind="t", grammar=nodes), spanning_trees(nodes, "t"))
        self.assertIs(is_spanning(trees=[[LEAF]], kind="t", grammar=nodes), False)

    def test_equal_arguments_give_equal_results(self):
        for seed in SEEDS[:30]:
            one, other = small_grammar(seed), small_grammar(seed)
            for name, attributes in one.kinds:
                form = tuple(range(1, len(attributes) + 2))
                self.assertEqual(spanning_trees(one, name), spanning_trees(other, name))
                self.assertEqual(nonzero(one, name, form), nonzero(other, name, list(form)))

    def test_arguments_stay_as_they_were(self):
        nodes, form, trees = nodes_grammar(), [0, 257, -1], [[LEAF], [LEAF, JOIN]]
        nonzero(nodes, "t", form)
        is_spanning(nodes, "t", trees)
        self.assertEqual((form, trees), ([0, 257, -1], copy.deepcopy([[LEAF], [LEAF, JOIN]])))
        self.assertEqual(nodes, nodes_grammar())

    def test_returned_lists_are_new(self):
        nodes = nodes_grammar()
        for called in (hull, relations, spanning_trees):
            wish = copy.deepcopy(called(nodes, "t"))
            found = called(nodes, "t")
            (found[1] if called is hull else found).clear()
            self.assertEqual(called(nodes, "t"), wish)
        trees = spanning_trees(nodes, "t")
        trees[1].append(None)
        self.assertEqual(spanning_trees(nodes, "t"), [[LEAF], [LEAF, JOIN]])
        found = nonzero(nodes, "t", (0, 1, 255))
        found.clear()
        self.assertEqual(nonzero(nodes, "t", (0, 1, 255)), [LEAF, JOIN])
        all_hulls(nodes).clear()
        self.assertEqual(len(all_hulls(nodes)), 1)


if __name__ == "__main__":
    unittest.main()
