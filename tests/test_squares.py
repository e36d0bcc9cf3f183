"""Stage 11: points 60 and 61, judged by grammars in which all trees and all forms of degree two are tried."""

import copy
import itertools
import random
import unittest

from leastattr.errors import NoForm, NoKind
from leastattr.grammars import Grammar
from leastattr.hulls import relations
from leastattr.modules import echelon
from leastattr.squares import breaking, quadratics
from leastattr.trees import kind_of, value
from brute import all_rows, elements_of, small_grammar, small_sum, trees_of
from samples import (DOUBLING_NODES, are_tidy, bare_grammar, bits_grammar, doubling_grammar, mixed_grammar,
                     no_integers, nodes_grammar, nodes_of, odd_values, places_grammar, random_tree, sums_grammar,
                     wide_grammar)

SEEDS = range(100)


def squared_at(form, state, width):
    """The value of a form of degree two, straight from point 60."""
    pairs = itertools.combinations_with_replacement(state, 2)
    numbers = [1, *state, *[one * other for one, other in pairs]]
    return sum(factor * number for factor, number in zip(form, numbers, strict=True)) % 2 ** width


def squared_size(size):
    """How many numbers a form of degree two has."""
    return {1: 3, 2: 6, 3: 10}[size]


def small_kinds():
    """Small grammars with each of their kinds, its number of attributes, and the attributes of its trees."""
    for seed in SEEDS:
        grammar = small_grammar(seed)
        for (name, attributes), states in zip(grammar.kinds, trees_of(grammar)):
            yield grammar, name, len(attributes), states


def some_forms(width, size, dice, many=25):
    """All forms of degree two, or many of them."""
    if width * squared_size(size) <= 6:
        return list(all_rows(width, squared_size(size)))
    return [tuple(dice.choice((0, dice.randrange(2 ** width))) for _ in range(squared_size(size)))
            for _ in range(many)]


class QuadraticsTest(unittest.TestCase):

    def test_against_all_forms(self):
        told = set()
        for grammar, name, size, states in small_kinds():
            width, many = grammar.width, squared_size(size)
            found = quadratics(grammar, name)
            self.assertTrue(type(found) is list and all(type(row) is tuple for row in found))
            self.assertEqual(found, echelon(width, many, found))
            if width * many <= 12:
                wish = {form for form in all_rows(width, many)
                        if all(squared_at(form, state, width) == 0 for state in states)}
                self.assertEqual(elements_of(width, many, found), wish)
                told.add((width, size))
            else:
                self.assertTrue(all(squared_at(form, state, width) == 0 for form in found for state in states))
        self.assertEqual(told, {(1, 1), (1, 2), (1, 3), (2, 1), (2, 2), (3, 1)})

    def test_the_example(self):
        self.assertEqual(quadratics(bits_grammar(), "b"), [(0, 1, 63)])
        self.assertEqual(quadratics(bits_grammar(64), "b"), [(0, 1, 2 ** 64 - 1)])
        self.assertEqual(quadratics(bits_grammar(1), "b"), [(0, 1, 1)])

    def test_relations_are_among_them(self):
        for grammar, name, size, _ in small_kinds():
            width, many = grammar.width, squared_size(size)
            rest = (0,) * (many - size - 1)
            for row in relations(grammar, name):
                for place in range(size + 1):
                    both = [0] * many
                    if place == 0:
                        both = row + rest
                    else:
                        # The product of a relation and an attribute is 0, too.
                        pairs = list(itertools.combinations_with_replacement(range(size), 2))
                        both[place] = row[0]
                        for other in range(size):
                            at = pairs.index(tuple(sorted((place - 1, other))))
                            both[1 + size + at] += row[1 + other]
                    self.assertEqual(echelon(width, many, quadratics(grammar, name) + [both]),
                                     quadratics(grammar, name))

    def test_a_kind_without_trees_has_all_forms(self):
        self.assertEqual(quadratics(bare_grammar(), "none"),
                         [tuple(int(at == place) for at in range(6)) for place in range(6)])

    def test_any_number_at_a_node(self):
        # x + x x is always even, and nothing else is always 0.
        leaf = Grammar(8, [("a", ("x",))], [("leaf", "a", (), 1, (((1, (), 0),),))], "a", [(0, 1)])
        self.assertEqual(quadratics(leaf, "a"), [(0, 128, 128)])
        pair = Grammar(8, [("a", ("x", "y"))], [("leaf", "a", (), 2, (((1, (), 0),), ((1, (), 1),)))], "a", [(0, 1, 0)])
        self.assertEqual(quadratics(pair, "a"), [(0, 128, 0, 128, 0, 0), (0, 0, 128, 0, 0, 128)])
        once = Grammar(8, [("a", ("x", "y"))], [("leaf", "a", (), 1, (((1, (), 0),), ((3, (), 0), (1, (), -1))))], "a",
                       [(0, 1, 0)])
        found = quadratics(once, "a")
        for form in found:
            for number in range(256):
                self.assertEqual(squared_at(form, (number, 3 * number + 1), 8), 0)
        self.assertIn((1, 3, 255, 0, 0, 0), elements_or_sums(found, (1, 3, 255, 0, 0, 0)))

    def test_two_numbers_at_a_node(self):
        for seed in range(24):
            dice = random.Random(seed)
            width = dice.choice([2, 2, 3])
            size = 2 if width == 2 else 1
            rules = [(name, "a", ("a",) * many, 2, tuple(small_sum(dice, width, [size] * many, 2, 4)
                                                         for _ in range(size)))
                     for many, name in enumerate(("leaf", "up", "join"))]
            grammar = Grammar(width, [("a", ("x", "y")[:size])], rules, "a", [(0,) + (1,) * size])
            states = trees_of(grammar)[0]
            found = quadratics(grammar, "a")
            wish = {form for form in all_rows(width, squared_size(size))
                    if all(squared_at(form, state, width) == 0 for state in states)}
            self.assertEqual(elements_of(width, squared_size(size), found), wish)
            for form in some_forms(width, size, dice, 20):
                nodes = [many for state, many in states.items() if squared_at(form, state, width)]
                tree = breaking(grammar, "a", form)
                self.assertEqual(None if tree is None else nodes_of(tree), min(nodes, default=None))

    def test_leaves_that_span_all_numbers_may_be_bits(self):
        self.assertEqual(relations(bits_grammar(), "b"), [])
        self.assertEqual(len(quadratics(bits_grammar(), "b")), 1)

    def test_widths_1_and_64(self):
        for width in (1, 64):
            for grammar in (nodes_grammar(width), places_grammar(width), mixed_grammar(width), wide_grammar(width, 2)):
                for name, attributes in grammar.kinds:
                    found = quadratics(grammar, name)
                    for seed in range(4):
                        state = value(grammar, random_tree(grammar, name, 9, seed))
                        self.assertFalse(any(squared_at(form, state, width) for form in found))
        self.assertEqual(quadratics(nodes_grammar(1), "t")[0], (1, 0, 0, 1, 0, 0))


def elements_or_sums(rows, row):
    """The row alone if it is an element of the module of some rows modulo 256, otherwise nothing."""
    return [row] if echelon(8, len(row), list(rows) + [row]) == list(rows) else []


class BreakingTest(unittest.TestCase):

    def check_told(self, grammar, name, form, tree, nodes):
        self.assertTrue(are_tidy(tree))
        self.assertEqual(kind_of(grammar, tree), name)
        self.assertNotEqual(squared_at(form, value(grammar, tree), grammar.width), 0)
        self.assertEqual(nodes_of(tree), nodes)
        for _, _, numbers in tree:
            self.assertTrue(all(0 <= number < 2 ** grammar.width for number in numbers))

    def test_against_all_trees(self):
        dice = random.Random(7)
        told = set()
        for grammar, name, size, states in small_kinds():
            for form in some_forms(grammar.width, size, dice):
                nodes = min([many for state, many in states.items() if squared_at(form, state, grammar.width)],
                            default=None)
                told.add(nodes)
                moved = [number + 2 ** grammar.width * dice.randrange(-2, 3) for number in form]
                tree = breaking(grammar, name, moved if dice.randrange(2) else tuple(moved))
                if nodes is None:
                    self.assertIsNone(tree)
                else:
                    self.check_told(grammar, name, form, tree, nodes)
        self.assertTrue(told >= {None, 1, 2, 3, 4, 5}, told)

    def test_the_example(self):
        self.assertEqual(breaking(bits_grammar(), "b", (0, 1, 0)), [("one", (), ())])
        self.assertIsNone(breaking(bits_grammar(), "b", (0, 1, -1)))
        self.assertEqual(nodes_of(breaking(bits_grammar(), "b", (1, 0, 0))), 1)

    def test_it_is_none_exactly_for_what_quadratics_tell(self):
        dice = random.Random(8)
        for grammar, name, size, _ in small_kinds():
            width, rows = grammar.width, quadratics(grammar, name)
            for form in rows:
                self.assertIsNone(breaking(grammar, name, form))
            for form in some_forms(width, size, dice, 5):
                inside = echelon(width, len(form), rows + [form]) == rows
                self.assertIs(breaking(grammar, name, form) is None, inside)

    def test_numbers_that_only_together_break_it(self):
        pair = Grammar(8, [("a", ("x", "y"))], [("leaf", "a", (), 2, (((1, (), 0),), ((1, (), 1),)))], "a", [(0, 1, 0)])
        self.check_told(pair, "a", (0, 0, 0, 0, 1, 0), breaking(pair, "a", (0, 0, 0, 0, 1, 0)), 1)
        self.check_told(pair, "a", (0, -1, 0, 1, 0, 0), breaking(pair, "a", (0, -1, 0, 1, 0, 0)), 1)
        self.check_told(pair, "a", (0, 0, 1, 0, 0, -1), breaking(pair, "a", (0, 0, 1, 0, 0, -1)), 1)
        narrow = Grammar(1, pair.kinds, pair.rules, "a", [(0, 1, 0)])
        self.check_told(narrow, "a", (0, 0, 0, 0, 1, 0), breaking(narrow, "a", (0, 0, 0, 0, 1, 0)), 1)
        self.assertIsNone(breaking(narrow, "a", (0, 1, 0, 1, 0, 0)))

    def test_the_same_child_twice_counts_with_all_others(self):
        # n counts the nodes: n (n - 1) (n - 3) is 0 for 1 and 3, so a form of degree two needs at most 5 nodes.
        nodes = nodes_grammar(64)
        self.check_told(nodes, "t", (3, -4, 0, 1, 0, 0), breaking(nodes, "t", (3, -4, 0, 1, 0, 0)), 5)
        self.check_told(nodes, "t", (-1, 0, 0, 1, 0, 0), breaking(nodes, "t", (-1, 0, 0, 1, 0, 0)), 3)

    def test_trees_with_many_nodes(self):
        doubling = doubling_grammar(64)
        for form in ((0, 0, 0, 1) + (0,) * 6, (0,) * 9 + (1,), (0,) * 9 + (2 ** 63,)):
            self.check_told(doubling, "e", form, breaking(doubling, "e", form), DOUBLING_NODES)

    def test_kinds_without_trees(self):
        self.assertIsNone(breaking(bare_grammar(), "none", (1, 2, 3, 4, 5, 6)))
        self.assertEqual(nodes_of(breaking(bare_grammar(), "lone", (0, 0, 1))), 1)

    def test_a_wide_grammar(self):
        wide = wide_grammar(64, 4)
        for name in "abcde":
            form = tuple(range(1, 11))
            self.check_told(wide, name, form, breaking(wide, name, form), 1)


class WrongArgumentsTest(unittest.TestCase):

    def test_no_kind(self):
        for thing in odd_values() + ["n", "one", "rows", "top"]:
            if thing != "leaf":
                for called in (quadratics, lambda *both: breaking(*both, (0, 1, 0)),
                               lambda *both: breaking(*both, None)):
                    with self.assertRaises(NoKind) as caught:
                        called(sums_grammar(), thing)
                    self.assertIs(caught.exception.kind, thing)

    def form_fails(self, index, kind, form):
        with self.assertRaises(NoForm) as caught:
            breaking(bare_grammar(), kind, form)
        self.assertEqual(caught.exception.index, index)

    def test_no_form(self):
        for thing in odd_values():
            self.form_fails(-1, "top", thing)
        for many in (0, 1, 2, 3, 4, 5, 7, 8, 9, 10, 11):
            self.form_fails(-1, "none", (1,) * many)
        for many in (0, 1, 2, 4, 5, 6, 10):
            self.form_fails(-1, "top", [1] * many)
        for thing in no_integers():
            self.form_fails(0, "top", (thing, thing, 0))
            self.form_fails(2, "top", [0, 10 ** 30, thing])
            self.form_fails(5, "none", (0, 1, 2, 3, 4, thing))
            self.form_fails(-1, "none", (0, 1, thing))


class GeneralRulesTest(unittest.TestCase):

    def test_by_name(self):
        self.assertEqual(quadratics(kind="b", grammar=bits_grammar()), [(0, 1, 63)])
        self.assertIsNone(breaking(form=[0, 65, -1], kind="b", grammar=bits_grammar()))

    def test_lists_and_tuples_are_alike(self):
        for seed in SEEDS[:30]:
            grammar = small_grammar(seed)
            for name, attributes in grammar.kinds:
                form = list(range(1, squared_size(len(attributes)) + 1))
                self.assertEqual(breaking(grammar, name, form), breaking(small_grammar(seed), name, tuple(form)))

    def test_arguments_stay_as_they_were_and_results_may_be_changed(self):
        bits, form = bits_grammar(), [0, 65, 0]
        wish = copy.deepcopy(form)
        breaking(bits, "b", form).clear()
        quadratics(bits, "b").clear()
        self.assertEqual((bits, form), (bits_grammar(), wish))
        self.assertEqual(breaking(bits, "b", form), [("one", (), ())])
        self.assertEqual(quadratics(bits, "b"), [(0, 1, 63)])


if __name__ == "__main__":
    unittest.main()
