"""Stage 8, takeovers: points 44, 45 and 46, by all attributes, registers, contexts and recipes of small grammars."""

import copy
import itertools
import random
import unittest

from leastattr.behaviours import least_numbers
from leastattr.codes import Code, registers
from leastattr.compiling import compiled
from leastattr.errors import NoKind, NoRecipe, NotOver
from leastattr.grammars import Grammar
from leastattr.hulls import hull
from leastattr.judging import judge
from leastattr.modules import echelon
from leastattr.recipes import check_recipe, given_back, takeover
from leastattr.trees import context_map, kind_of, kinds_of_context, value
from leastattr.wants import wanted
from brute import (all_rows, asked_of, changed_code, copying_code, elements_of, form_at, minus, padded_code, product,
                   random_code, small_grammar, trees_of, trees_with)
from samples import (DOUBLING_NODES, FIVE, are_tidy, bare_grammar, both_grammar, changed, codes_not_over_sums,
                     doubling_grammar, mixed_grammar, no_integers, nodes_of, odd_values, once_grammar, places_grammar,
                     sums_code, sums_grammar, twice_code)

SEEDS = range(90)
FEW = 1100
RECIPE = ((0, 1), (3, -2))


class World:
    """A small grammar, a code over it, and one of its kinds, with all that trees and contexts of it come to."""

    def __init__(self, grammar, code, place, both, rows):
        self.grammar = grammar
        self.width = grammar.width
        self.code = code
        self.kind, attributes = grammar.kinds[place]
        self.size = len(attributes)
        self.many = code.counts[place]
        self.states = list(both)
        self.rows = list(rows)

    def is_right(self, recipe):
        """Whether a recipe is right, straight from point 44."""
        for state, own in self.states:
            more = minus(self.width, [form_at(form, own, self.width) for form in recipe], state)
            if any(product(self.width, row, more) for row in self.rows):
                return False
        return True

    def how_many_recipes(self):
        return 2 ** (self.width * (self.many + 1) * self.size)

    def all_recipes(self):
        return itertools.product(all_rows(self.width, self.many + 1), repeat=self.size)

    def given(self):
        """All linear parts that are given back, straight from point 46."""
        found = set()
        first = self.states[0] if self.states else None
        more = [(minus(self.width, state, first[0]), minus(self.width, own, first[1])) for state, own in self.states]
        for factors in all_rows(self.width, self.many):
            own = [product(self.width, factors, row) for _, row in more]
            found.update(part for part in all_rows(self.width, self.size)
                         if [product(self.width, part, row) for row, _ in more] == own)
        return found


def worlds():
    """Small grammars with codes over them, some right, and each of their kinds."""
    for seed in SEEDS:
        grammar = small_grammar(seed)
        asked = asked_of(grammar, trees_of(grammar))
        least = compiled(grammar)
        for code in (least, copying_code(grammar), random_code(grammar, seed), random_code(grammar, seed + 500),
                     changed_code(least, seed), padded_code(least, 1, seed, 2)):
            for place, both in enumerate(trees_with(grammar, code.rules)):
                yield World(grammar, code, place, both, asked[place])


ALL = list(worlds())


class RecipeCase(unittest.TestCase):

    def check_form(self, world, recipe):
        self.assertIs(type(recipe), tuple)
        self.assertEqual(len(recipe), world.size)
        for form in recipe:
            self.assertIs(type(form), tuple)
            self.assertEqual(len(form), world.many + 1)
            self.assertTrue(all(0 <= number < 2 ** world.width for number in form))

    def check_told(self, grammar, code, kind, recipe, told):
        self.assertEqual([type(told), type(told[1])], [tuple, tuple])
        tree, (context, index) = told
        self.assertTrue(are_tidy(tree))
        self.assertTrue(are_tidy(context))
        self.assertEqual(kind_of(grammar, tree), kind)
        self.assertEqual(kinds_of_context(grammar, context), (kind, grammar.top))
        made = [form_at(form, registers(grammar, code, tree), grammar.width) for form in recipe]
        answers = []
        for state in (value(grammar, tree), made):
            outside = [form_at(form, state, grammar.width) for form in context_map(grammar, context)]
            answers.append(form_at(grammar.answers[index], outside, grammar.width))
        self.assertNotEqual(*answers)


class TakeoverTest(RecipeCase):

    def test_against_all_recipes(self):
        told = {True: 0, False: 0}
        for world in ALL:
            found = takeover(world.grammar, world.code, world.kind)
            if found is not None:
                self.check_form(world, found)
                self.assertTrue(world.is_right(found))
            if world.how_many_recipes() <= FEW:
                wish = any(world.is_right(recipe) for recipe in world.all_recipes())
                self.assertIs(found is not None, wish)
                told[wish] += 1
        self.assertGreater(min(told.values()), 30)

    def test_right_codes_with_the_least_numbers_may_have_none(self):
        self.assertIsNone(judge(once_grammar(), twice_code()))
        self.assertEqual(list(twice_code().counts), least_numbers(once_grammar()))
        self.assertIsNone(takeover(once_grammar(), twice_code(), "x"))

    def test_the_examples(self):
        self.assertIsNotNone(takeover(once_grammar(), compiled(once_grammar()), "x"))
        recipe = takeover(sums_grammar(), sums_code(), "row")
        self.assertIsNone(check_recipe(sums_grammar(), sums_code(), "row", recipe))

    def test_the_code_need_not_be_right(self):
        code = Code(8, [1], [(0, (), 1, (((3, (), 0), (7, (), -1)),))], 0, [(0, 1)])
        self.assertIsNotNone(judge(once_grammar(), code))
        recipe = takeover(once_grammar(), code, "x")
        self.assertIsNone(check_recipe(once_grammar(), code, "x", recipe))

    def test_no_registers(self):
        code = Code(8, [0], [(0, (), 1, ())], 0, [(0,)])
        self.assertIsNone(takeover(once_grammar(), code, "x"))
        grammar = Grammar(8, [("x", ("a", "b"))], [("leaf", "x", (), 1, (((1, (), 0), (6, (), -1)), ((5, (), -1),)))],
                          "x", [(0, 0, 1)])
        recipe = takeover(grammar, code, "x")
        self.assertEqual([len(form) for form in recipe], [1, 1])
        self.assertEqual(recipe[1], (5,))

    def test_kinds_without_trees_or_contexts(self):
        code = copying_code(bare_grammar())
        rules = [rule[:3] + (((),) * 3,) for rule in code.rules]
        empty = Code(8, [3, 3, 3], rules, 0, [(0, 0, 0, 0)])
        self.assertIsNone(takeover(bare_grammar(), empty, "top"))
        for kind, size in (("none", 2), ("lone", 1)):
            recipe = takeover(bare_grammar(), empty, kind)
            self.assertEqual([len(form) for form in recipe], [4] * size)
            self.assertIsNone(check_recipe(bare_grammar(), empty, kind, recipe))

    def test_widths_1_and_64_and_16_registers(self):
        for width in (1, 64):
            for grammar, most in ((sums_grammar(width), 16), (mixed_grammar(width), 16), (places_grammar(width), 16),
                                  (doubling_grammar(width), 6)):
                least = compiled(grammar)
                for code in (least, copying_code(grammar), padded_code(least, most - max(least.counts), width)):
                    for name, _ in grammar.kinds:
                        recipe = takeover(grammar, code, name)
                        self.assertIsNone(check_recipe(grammar, code, name, recipe))


class CheckRecipeTest(RecipeCase):

    def test_against_all_recipes(self):
        dice = random.Random(8)
        told = {True: 0, False: 0}
        for world in ALL:
            recipes = [tuple(tuple(dice.randrange(-9, 9) for _ in range(world.many + 1)) for _ in range(world.size))
                       for _ in range(3)]
            if world.how_many_recipes() <= 16:
                recipes += list(world.all_recipes())
            for recipe in recipes:
                found = check_recipe(world.grammar, world.code, world.kind, recipe)
                self.assertIs(found is None, world.is_right(recipe))
                told[found is None] += 1
                if found is not None:
                    self.check_told(world.grammar, world.code, world.kind, recipe, found)
        self.assertGreater(min(told.values()), 300)

    def test_the_example(self):
        found = check_recipe(once_grammar(), twice_code(), "x", ((0, 1),))
        self.check_told(once_grammar(), twice_code(), "x", ((0, 1),), found)

    def test_numbers_may_be_any(self):
        grammar = sums_grammar()
        wish = ((0, 0), (-256, 1 + 2 ** 70))
        self.assertIsNone(check_recipe(grammar, sums_code(), "row", wish))
        self.check_told(grammar, sums_code(), "row", changed(wish, (1, 0), 10 ** 30 + 1), check_recipe(
            grammar, sums_code(), "row", changed(wish, (1, 0), 10 ** 30 + 1)))

    def test_values_need_not_be_those_of_a_tree(self):
        # Twice the size plus the total is all that is asked, and a size of 77 and some total may tell it.
        self.assertIsNone(check_recipe(sums_grammar(), sums_code(), "row", ((77, 0), (-154, 1))))

    def test_many_more_nodes_than_steps(self):
        grammar = doubling_grammar(64)
        code = copying_code(grammar)
        recipe = ((0, 1, 0, 0), (0, 0, 1, 0), (0, 0, 0, 0))
        found = check_recipe(grammar, code, "e", recipe)
        self.check_told(grammar, code, "e", recipe, found)
        self.assertEqual(nodes_of(found[0]), DOUBLING_NODES)
        recipe = ((0, 2, 0, 0), (0, 0, 1, 0), (0, 0, 0, 1))
        found = check_recipe(grammar, code, "a", recipe)
        self.check_told(grammar, code, "a", recipe, found)
        self.assertEqual(nodes_of(found[1][0]), DOUBLING_NODES - 1)

    def test_kinds_without_trees_or_contexts(self):
        code = copying_code(bare_grammar())
        self.assertIsNone(check_recipe(bare_grammar(), code, "none", ((1, 2, 3), (4, 5, 6))))
        self.assertIsNone(check_recipe(bare_grammar(), code, "lone", ((1, 2),)))


class GivenBackTest(RecipeCase):

    def test_against_all_forms(self):
        for world in ALL:
            found = given_back(world.grammar, world.code, world.kind)
            self.assertIs(type(found), list)
            self.assertTrue(all(type(row) is tuple for row in found))
            self.assertEqual(elements_of(world.width, world.size, found), world.given())
            self.assertEqual(found, echelon(world.width, world.size, found))

    def test_right_codes_give_back_what_is_wanted(self):
        many = 0
        for world in ALL:
            if judge(world.grammar, world.code) is None and world.states:
                many += 1
                inside = elements_of(world.width, world.size, given_back(world.grammar, world.code, world.kind))
                self.assertTrue(set(wanted(world.grammar, world.kind)) <= inside)
                module = hull(world.grammar, world.kind)[1]
                for part in all_rows(world.width, world.size):
                    if not any(product(world.width, part, row) for row in module):
                        self.assertIn(part, inside)
        self.assertGreater(many, 200)

    def test_the_examples(self):
        both = both_grammar()
        self.assertEqual(wanted(both, "bit"), [(2,)])
        self.assertEqual(given_back(both, compiled(both), "bit"), [(1,)])
        self.assertEqual(given_back(once_grammar(), twice_code(), "x"), [(2,)])
        self.assertEqual(given_back(sums_grammar(), sums_code(), "row"), [(2, 1), (0, 128)])

    def test_a_kind_without_trees(self):
        code = copying_code(bare_grammar())
        self.assertEqual(given_back(bare_grammar(), code, "none"), [(1, 0), (0, 1)])

    def test_a_kind_of_one_tuple_of_attributes(self):
        grammar = Grammar(8, [("x", ("a", "b"))], [("leaf", "x", (), 1, (((5, (), -1),), ((6, (), -1),)))],
                          "x", [(0, 0, 1)])
        self.assertEqual(given_back(grammar, Code(8, [0], [(0, (), 1, ())], 0, [(0,)]), "x"), [(1, 0), (0, 1)])

    def test_no_registers(self):
        code = Code(8, [0, 0], [(0, (), 1, ()), (1, (), 0, ()), (1, (1, 0), 0, ())], 1, [(0,)])
        self.assertEqual(given_back(sums_grammar(), code, "row"), [])
        self.assertEqual(given_back(sums_grammar(1), Code(1, code.counts, code.rules, 1, [(0,)]), "leaf"), [])

    def test_width_64_and_16_registers(self):
        for grammar in (places_grammar(64), mixed_grammar(64)):
            code = padded_code(copying_code(grammar), 13, 5)
            self.assertEqual(max(code.counts), 16 if len(grammar.kinds) == 1 else 15)
            for name, attributes in grammar.kinds:
                size = len(attributes)
                unit = [tuple(int(at == place) for at in range(size)) for place in range(size)]
                self.assertEqual(given_back(grammar, code, name), unit)


class WrongArgumentsTest(unittest.TestCase):

    def calls(self, code, kind, recipe=None):
        sums = sums_grammar()
        return [lambda: takeover(sums, code, kind), lambda: check_recipe(sums, code, kind, recipe),
                lambda: given_back(sums, code, kind)]

    def test_not_over(self):
        no_codes = [(-1, thing) for thing in odd_values() if not isinstance(thing, Code)]
        for rule, code in codes_not_over_sums() + no_codes:
            for kind in ("row", None):
                for called in self.calls(code, kind):
                    with self.assertRaises(NotOver) as caught:
                        called()
                    self.assertEqual(caught.exception.rule, rule)

    def test_no_kind(self):
        for thing in odd_values() + ["n", "one", "rows", "top", 0, 1]:
            if thing != "leaf":
                for called in self.calls(sums_code(), thing):
                    with self.assertRaises(NoKind) as caught:
                        called()
                    self.assertIs(caught.exception.kind, thing)

    def recipe_fails(self, index, recipe, kind="row"):
        with self.assertRaises(NoRecipe) as caught:
            check_recipe(sums_grammar(), sums_code(), kind, recipe)
        self.assertEqual(caught.exception.index, index)

    def test_no_recipe(self):
        for thing in odd_values() + [list(RECIPE), RECIPE[:1], RECIPE + RECIPE[:1], dict(enumerate(RECIPE))]:
            self.recipe_fails(-1, thing)
        self.recipe_fails(-1, RECIPE, "leaf")

    def test_no_forms(self):
        for thing in odd_values() + [[0, 1], (0,), (0, 1, 2), {0: 0, 1: 1}]:
            self.recipe_fails(0, (thing, thing))
            self.recipe_fails(1, (RECIPE[0], thing))
        for thing in no_integers():
            self.recipe_fails(0, ((thing, 0), None))
            self.recipe_fails(1, ((0, 0), (0, thing)))

    def test_a_kind_without_trees_has_its_errors(self):
        with self.assertRaises(NoRecipe) as caught:
            check_recipe(bare_grammar(), copying_code(bare_grammar()), "none", ((0, 0, 0), (0, 0)))
        self.assertEqual(caught.exception.index, 1)


class GeneralRulesTest(unittest.TestCase):

    def test_by_name(self):
        sums, code = sums_grammar(), sums_code()
        self.assertEqual(takeover(kind="row", code=code, grammar=sums), takeover(sums, code, "row"))
        self.assertEqual(given_back(kind="row", code=code, grammar=sums), [(2, 1), (0, 128)])
        self.assertIsNone(check_recipe(recipe=((0, 0), (0, 1)), kind="row", code=code, grammar=sums))

    def test_equal_arguments_give_equal_results(self):
        for seed in SEEDS[:30]:
            codes = [random_code(small_grammar(seed), seed) for _ in range(2)]
            for name, _ in small_grammar(seed).kinds:
                self.assertEqual(*[takeover(small_grammar(seed), code, name) for code in codes])
                self.assertEqual(*[given_back(small_grammar(seed), code, name) for code in codes])

    def test_arguments_stay_as_they_were(self):
        sums, code = sums_grammar(), sums_code()
        takeover(sums, code, "row")
        given_back(sums, code, "row")
        check_recipe(sums, code, "row", RECIPE)
        self.assertEqual((sums, code, RECIPE), (sums_grammar(), sums_code(), ((0, 1), (3, -2))))

    def test_returned_lists_are_new(self):
        given_back(sums_grammar(), sums_code(), "row").clear()
        self.assertEqual(given_back(sums_grammar(), sums_code(), "row"), [(2, 1), (0, 128)])
        wish = copy.deepcopy(check_recipe(sums_grammar(), sums_code(), "row", RECIPE))
        tree, (context, _) = check_recipe(sums_grammar(), sums_code(), "row", RECIPE)
        tree.clear()
        context.clear()
        self.assertEqual(check_recipe(sums_grammar(), sums_code(), "row", RECIPE), wish)
        self.assertEqual(FIVE[0], ("nil", (), ()))


if __name__ == "__main__":
    unittest.main()
