"""Stage 8, the least code: point 43."""

import random
import unittest

from leastattr.behaviours import least, least_numbers, shown, paper
from leastattr.codes import Code, code_answers, registers
from leastattr.compiling import compiled
from leastattr.grammars import Grammar
from leastattr.judging import judge
from leastattr.recipes import check_recipe, takeover
from leastattr.trees import answers_of
from brute import form_at, small_grammar, trees_of, trees_with
from samples import (bare_grammar, both_grammar, doubled_leaves, doubling_grammar, lists_grammar, mixed_grammar,
                     nodes_grammar, once_grammar, places_grammar, random_tree, sums_grammar)

SEEDS = range(250)


def sample_grammars():
    """The grammars of the document and others, of widths 1, 8 and 64."""
    makes = (sums_grammar, nodes_grammar, places_grammar, mixed_grammar, doubling_grammar, bare_grammar)
    return [make(width) for make in makes for width in (1, 8, 64)] + [lists_grammar(), once_grammar(), both_grammar()]


def largest_grammar(seed):
    """A grammar with the most of everything; half of its factors are divided by high powers of 2."""
    dice = random.Random(seed)

    def sums(children, numbers):
        return tuple((dice.randrange(2 ** 64) << dice.choice([0, 0, dice.randrange(64)]),
                      tuple(dice.randrange(-1, 3) for _ in range(children)), dice.randrange(-1, numbers))
                     for _ in range(12))

    rules = []
    for at in range(12):
        children = tuple(dice.choice("abcde") for _ in range(0 if at < 5 else dice.randrange(1, 3)))
        rules.append(("r" + "abcdefghijkl"[at], "abcde"[at % 5], children, 2,
                      tuple(sums(len(children), 2) for _ in range(3))))
    answers = [tuple(dice.randrange(2 ** 64) for _ in range(4)) for _ in range(4)]
    return Grammar(64, [(name, ("x", "y", "z")) for name in "abcde"], rules, "e", answers)


class CompiledTest(unittest.TestCase):

    def check_code(self, grammar):
        code = compiled(grammar)
        self.assertIsInstance(code, Code)
        self.assertEqual(code.counts, tuple(least(grammar, name) for name, _ in grammar.kinds))
        self.assertEqual(list(code.counts), least_numbers(grammar))
        self.assertIsNone(judge(grammar, code))
        for name, _ in grammar.kinds:
            recipe = takeover(grammar, code, name)
            self.assertIsNotNone(recipe)
            self.assertIsNone(check_recipe(grammar, code, name, recipe))
        return code

    def test_small_grammars(self):
        most = set()
        for seed in SEEDS:
            grammar = small_grammar(seed)
            most.update(self.check_code(grammar).counts)
        self.assertEqual(most, {0, 1, 2, 3})

    def test_all_answers_of_small_grammars(self):
        for seed in SEEDS:
            grammar = small_grammar(seed)
            code = compiled(grammar)
            top = [name for name, _ in grammar.kinds].index(grammar.top)
            for state, own in trees_with(grammar, code.rules)[top]:
                self.assertEqual([form_at(form, state, grammar.width) for form in grammar.answers],
                                 [form_at(form, own, grammar.width) for form in code.answers])

    def test_the_grammars_of_the_document(self):
        for grammar in sample_grammars():
            self.check_code(grammar)

    def test_the_most_of_everything(self):
        for seed in range(3):
            self.check_code(largest_grammar(seed))

    def test_the_example(self):
        self.assertEqual(compiled(both_grammar()).counts, (1, 1))

    def test_answers_of_trees(self):
        for grammar in (sums_grammar(), mixed_grammar(), mixed_grammar(64), places_grammar(64)):
            code = compiled(grammar)
            for seed in range(20):
                tree = random_tree(grammar, grammar.top, 8, seed)
                self.assertEqual(code_answers(grammar, code, tree), answers_of(grammar, tree))
        self.assertEqual(code_answers(nodes_grammar(64), compiled(nodes_grammar(64)), doubled_leaves(2000)),
                         [2 ** 64 - 1])

    def test_it_stands_over_the_grammar(self):
        for seed in SEEDS[:60]:
            grammar = small_grammar(seed)
            code = compiled(grammar)
            names = [name for name, _ in grammar.kinds]
            self.assertEqual((code.width, code.top), (grammar.width, names.index(grammar.top)))
            self.assertEqual([len(code.answers), len(code.rules)], [len(grammar.answers), len(grammar.rules)])
            for rule, own in zip(grammar.rules, code.rules):
                self.assertEqual(own[:3], (names.index(rule[1]), tuple(map(names.index, rule[2])), rule[3]))

    def test_no_paper_shows_more(self):
        for seed in SEEDS[:60]:
            grammar = small_grammar(seed)
            for (name, _), many in zip(grammar.kinds, compiled(grammar).counts):
                self.assertEqual(shown(grammar, name, paper(grammar, name)), many)


class EdgesTest(unittest.TestCase):

    def test_kinds_without_trees_have_no_registers(self):
        code = compiled(bare_grammar())
        self.assertEqual(code.counts, (1, 0, 0))
        empty = 0
        for seed in SEEDS:
            grammar = small_grammar(seed)
            for states, many in zip(trees_of(grammar), compiled(grammar).counts):
                if not states:
                    empty += 1
                    self.assertEqual(many, 0)
        self.assertGreater(empty, 9)

    def test_a_top_kind_without_trees(self):
        grammar = bare_grammar()
        code = compiled(Grammar(8, grammar.kinds, grammar.rules, "none", [(1, 2, 3)]))
        self.assertEqual(code.counts, (0, 0, 0))

    def test_a_rule_none_of_whose_trees_exist(self):
        code = compiled(bare_grammar())
        self.assertEqual([len(values) for _, _, _, values in code.rules], [1, 1, 0, 0, 0, 0, 0])
        self.assertEqual(registers(bare_grammar(), code, [("only", (), (1, 2))]), ())

    def test_differences_that_are_no_multiples_of_one(self):
        # All trees have even numbers; a register that is the half of one is no linear part of it.
        grammar = Grammar(8, [("t", ("n",))], [
            ("leaf", "t", (), 1, (((2, (), 0),),)),
            ("add", "t", ("t", "t"), 1, (((1, (0, -1), -1), (1, (-1, 0), -1), (2, (0, 0), 0)),)),
        ], "t", [(0, 1)])
        code = compiled(grammar)
        self.assertEqual(code.counts, (1,))
        self.assertIsNone(judge(grammar, code))
        self.assertIsNone(check_recipe(grammar, code, "t", takeover(grammar, code, "t")))

    def test_an_answer_that_is_constant(self):
        grammar = Grammar(8, [("t", ("n",))], [("leaf", "t", (), 1, (((16, (), 0),),))], "t", [(5, 16), (6, 0)])
        self.assertEqual(compiled(grammar), Code(8, [0], [(0, (), 1, ())], 0, [(5,), (6,)]))


class GeneralRulesTest(unittest.TestCase):

    def test_numbers_are_reduced(self):
        for grammar in sample_grammars():
            code = compiled(grammar)
            numbers = [number for form in code.answers for number in form]
            numbers += [term[0] for rule in code.rules for terms in rule[3] for term in terms]
            self.assertTrue(all(0 <= number < 2 ** grammar.width for number in numbers))

    def test_by_name_and_equal_results(self):
        for make in (sums_grammar, mixed_grammar, lists_grammar):
            self.assertEqual(compiled(grammar=make()), compiled(make()))
            self.assertIsNot(compiled(make()), compiled(make()))

    def test_the_grammar_stays_as_it_was(self):
        grammar = mixed_grammar()
        compiled(grammar)
        self.assertEqual(grammar, mixed_grammar())


if __name__ == "__main__":
    unittest.main()
