"""Stage 7: points 37, 38 and 39, and the general rules 2 and 3 for them."""

import copy
import random
import unittest

from leastattr.codes import Code, code_answers, registers
from leastattr.errors import AttrError, NoCode, NoTree, NotOver, NotTop
from leastattr.grammars import Grammar
from leastattr.trees import answers_of, value
from brute import copying_code, form_at, plain_rules, random_code, small_grammar, small_sum, sums_at, trees_of
from samples import (FIVE, bare_grammar, changed, codes_not_over_sums, doubled_leaves, mixed_grammar, no_integers,
                     nodes_grammar, odd_values, random_tree, sums_code, sums_grammar)

COUNTS = [1, 2]
RULES = [
    (0, (), 1, (((1, (), 0), (-1, (), -1)),)),
    (1, (), 0, ((), ((300, (), -1),))),
    (1, (1, 0), 2, (((1, (0, -1), -1), (2, (1, 0), 1)), ((1, (-1, 0), 0), (5, (-1, -1), -1)))),
]
PUT = RULES[2]
ANSWERS = [(0, 2, 1), (-1, 0, 1)]


def is_empty(thing):
    """Whether a value is an empty tuple."""
    return isinstance(thing, tuple) and thing == ()


def state_by(grammar, rules, steps):
    """What a tree comes to by the rules of a code, straight from points 6 and 37."""
    names = [rule[0] for rule in grammar.rules]
    states = []
    for name, places, numbers in steps:
        values = rules[names.index(name)][3]
        states.append(sums_at(values, [states[place] for place in places], numbers, grammar.width))
    return states[-1]


def largest_code(grammar, seed):
    """A code over a grammar with 16 registers for each kind, and 400 terms in each sum."""
    dice = random.Random(seed)
    rules = []
    for kind, children, numbers, _ in plain_rules(grammar):
        sizes = [16] * len(children)
        values = [tuple(term for _ in range(200) for term in
                        (small_sum(dice, grammar.width, sizes, numbers, 4) + ((1, (-1,) * len(children), -1),))[:2])
                  for _ in range(16)]
        rules.append((kind, children, numbers, tuple((terms * 2)[:400] for terms in values)))
    top = [name for name, _ in grammar.kinds].index(grammar.top)
    answers = [tuple(dice.randrange(2 ** 64) for _ in range(17)) for _ in grammar.answers]
    return Code(grammar.width, [16] * len(grammar.kinds), rules, top, answers)


class CodeCase(unittest.TestCase):

    def fails(self, part, index, *parts):
        with self.assertRaises(NoCode) as caught:
            Code(*parts)
        self.assertEqual((caught.exception.part, caught.exception.index), (part, index))

    def counts_fail(self, index, counts):
        self.fails("counts", index, 8, counts, RULES, 1, ANSWERS)

    def rules_fail(self, index, rules):
        self.fails("rules", index, 8, COUNTS, rules, 1, ANSWERS)

    def rule_fails(self, path, new):
        self.rules_fail(2, RULES[:2] + [changed(PUT, path, new)])

    def answers_fail(self, index, answers):
        self.fails("answers", index, 8, COUNTS, RULES, 1, answers)


class AttributesTest(CodeCase):

    def test_attributes_are_tuples_of_reduced_numbers(self):
        made = Code(8, COUNTS, RULES, 1, ANSWERS)
        self.assertEqual(made.width, 8)
        self.assertEqual(made.counts, (1, 2))
        self.assertEqual(made.rules, (
            (0, (), 1, (((1, (), 0), (255, (), -1)),)),
            (1, (), 0, ((), ((44, (), -1),))),
            (1, (1, 0), 2, (((1, (0, -1), -1), (2, (1, 0), 1)), ((1, (-1, 0), 0), (5, (-1, -1), -1)))),
        ))
        self.assertEqual(made.top, 1)
        self.assertEqual(made.answers, ((0, 2, 1), (255, 0, 1)))

    def test_lists_and_tuples_are_equal_arguments(self):
        one = Code(8, list(COUNTS), list(RULES), 1, list(ANSWERS))
        other = Code(8, tuple(COUNTS), tuple(RULES), 1, tuple(ANSWERS))
        self.assertTrue(one == other)
        self.assertFalse(one != other)

    def test_by_name(self):
        made = Code(answers=ANSWERS, top=1, rules=RULES, counts=COUNTS, width=8)
        self.assertEqual(made, Code(8, COUNTS, RULES, 1, ANSWERS))

    def test_widths_1_and_64(self):
        for width in (1, 64):
            made = Code(width, [1], [(0, (), 0, (((-1, (), -1),),))], 0, [(-1, 2 ** width)])
            self.assertEqual(made.width, width)
            self.assertEqual(made.rules[0][3], (((2 ** width - 1, (), -1),),))
            self.assertEqual(made.answers, ((2 ** width - 1, 0),))

    def test_the_least_and_the_most_of_everything(self):
        made = Code(8, [0], [(0, (), 0, ())], 0, [(7,)])
        self.assertEqual((made.counts, made.rules, made.answers), ((0,), ((0, (), 0, ()),), ((7,),)))
        values = tuple([((1, (15, -1), 1),) * 400] * 16)
        rules = [(4, (4, 4), 2, values)] * 12
        made = Code(64, [16, 0, 1, 16, 16], rules, 3, [(0,) * 17] * 4)
        self.assertEqual([len(made.counts), len(made.rules), len(made.answers), made.top], [5, 12, 4, 3])
        self.assertEqual(made.rules[11], rules[11])


class EqualityTest(CodeCase):

    def test_reduced_parts_are_compared(self):
        one = Code(8, [1], [(0, (), 0, (((-1, (), -1),),))], 0, [(0, 257)])
        other = Code(8, [1], [(0, (), 0, (((255, (), -1),),))], 0, [(256, 1)])
        self.assertTrue(one == other)

    def test_each_part_counts(self):
        rules = [(0, (), 0, ((),))]
        base = Code(8, [1, 1], rules, 0, [(0, 1)])
        self.assertTrue(base == Code(8, [1, 1], rules, 0, [(0, 1)]))
        others = [
            Code(9, [1, 1], rules, 0, [(0, 1)]),
            Code(8, [1, 2], rules, 0, [(0, 1)]),
            Code(8, [1], rules, 0, [(0, 1)]),
            Code(8, [1, 1], [(1, (), 0, ((),))], 0, [(0, 1)]),
            Code(8, [1, 1], [(0, (0,), 0, ((),))], 0, [(0, 1)]),
            Code(8, [1, 1], rules * 2, 0, [(0, 1)]),
            Code(8, [1, 1], rules, 1, [(0, 1)]),
            Code(8, [1, 1], rules, 0, [(0, 2)]),
            Code(8, [1, 1], rules, 0, [(0, 1)] * 2),
        ]
        for other in others:
            self.assertFalse(base == other)
            self.assertTrue(base != other)

    def test_equal_to_nothing_of_another_kind(self):
        made = Code(8, COUNTS, RULES, 1, ANSWERS)
        alike = [(made.width, made.counts, made.rules, made.top, made.answers), sums_grammar()]
        for thing in odd_values() + alike:
            self.assertFalse(made == thing)
            self.assertFalse(thing == made)
            self.assertTrue(made != thing)


class ChangesTest(CodeCase):

    def test_arguments_stay_as_they_were(self):
        counts, rules, answers = list(COUNTS), list(RULES), list(ANSWERS)
        before = copy.deepcopy((counts, rules, answers))
        Code(8, counts, rules, 1, answers)
        self.assertEqual((counts, rules, answers), before)

    def test_later_changes_have_no_effect(self):
        counts, rules, answers = list(COUNTS), list(RULES), list(ANSWERS)
        made = Code(8, counts, rules, 1, answers)
        counts[0] = 5
        rules[0] = None
        del answers[:]
        self.assertEqual(made, Code(8, COUNTS, RULES, 1, ANSWERS))


class WrongPartsTest(CodeCase):

    def test_wrong_widths(self):
        for thing in odd_values() + [65, "8", (8,)]:
            self.fails("width", -1, thing, COUNTS, RULES, 1, ANSWERS)

    def test_wrong_counts(self):
        not_lists = [thing for thing in odd_values() if not isinstance(thing, (list, tuple)) or not thing]
        for thing in not_lists + [[1, 2, 0, 0, 0, 0], {0: 1, 1: 2}, {1, 2}, "12", b"12", range(1, 3)]:
            self.counts_fail(-1, thing)
        for thing in no_integers() + [-1, 17, 10 ** 30]:
            self.counts_fail(0, [thing, 2])
            self.counts_fail(1, (1, thing, None))

    def test_no_list_of_rules_or_too_many(self):
        not_lists = [thing for thing in odd_values() if not isinstance(thing, (list, tuple)) or not thing]
        for thing in not_lists + [[RULES[0]] * 13, {0: RULES[0]}]:
            self.rules_fail(-1, thing)

    def test_wrong_rules(self):
        for thing in odd_values() + [list(PUT), PUT[:3], PUT + (0,), ("put",) + PUT]:
            self.rules_fail(0, [thing])
            self.rules_fail(1, (RULES[0], thing, None))

    def test_wrong_kinds_and_children(self):
        for thing in no_integers() + [-1, 2, 10 ** 30]:
            self.rule_fails((0,), thing)
            self.rule_fails((1, 0), thing)
            self.rule_fails((1, 1), thing)
        for thing in odd_values() + [[1, 0], (1,), (1, 0, 0), 1]:
            if not is_empty(thing):
                self.rule_fails((1,), thing)
        terms = ((1, (-1, -1, -1), -1),)
        self.rules_fail(0, [(1, (1, 1, 1), 0, (terms, terms))])

    def test_wrong_numbers_of_numbers(self):
        for thing in no_integers() + [3, -1, 0, 1, 10 ** 30]:
            self.rule_fails((2,), thing)

    def test_wrong_sums(self):
        for thing in odd_values() + [PUT[3][:1], PUT[3] + ((),), list(PUT[3])]:
            self.rule_fails((3,), thing)
        for thing in odd_values() + [[(1, (0, -1), -1)], ((1, (0, -1), -1),) * 401]:
            if not is_empty(thing):
                self.rule_fails((3, 0), thing)

    def test_wrong_terms(self):
        for thing in odd_values() + [[1, (0, -1), -1], (1, (0, -1)), (1, (0, -1), -1, 0)]:
            self.rule_fails((3, 1, 1), thing)
        for thing in no_integers():
            self.rule_fails((3, 1, 1, 0), thing)
        for thing in odd_values() + [[0, -1], (0,), (0, -1, -1)]:
            self.rule_fails((3, 1, 1, 1), thing)
        for thing in no_integers() + [2, -2, 10 ** 30]:
            self.rule_fails((3, 1, 1, 1, 0), thing)
        for thing in no_integers() + [1, -2]:
            self.rule_fails((3, 1, 1, 1, 1), thing)
        for thing in no_integers() + [2, -2]:
            self.rule_fails((3, 1, 1, 2), thing)

    def test_registers_of_a_child_without_any(self):
        self.assertEqual(Code(8, [0, 1], [(1, (0,), 0, (((1, (-1,), -1),),))], 1, [(0, 1)]).counts, (0, 1))
        self.fails("rules", 0, 8, [0, 1], [(1, (0,), 0, (((1, (0,), -1),),))], 1, [(0, 1)])
        self.fails("rules", 0, 8, [0, 1], [(0, (), 0, ((),))], 1, [(0, 1)])

    def test_wrong_tops(self):
        for thing in no_integers() + [-1, 2, 10 ** 30]:
            self.fails("top", -1, 8, COUNTS, RULES, thing, ANSWERS)

    def test_wrong_answers(self):
        not_lists = [thing for thing in odd_values() if not isinstance(thing, (list, tuple)) or not thing]
        for thing in not_lists + [ANSWERS * 3, {(0, 2, 1): 1}]:
            self.answers_fail(-1, thing)
        for thing in odd_values() + [[0, 2, 1], (0, 2), (0, 2, 1, 0)]:
            self.answers_fail(0, [thing])
            self.answers_fail(1, (ANSWERS[0], thing, None))
        for thing in no_integers():
            for place in range(3):
                self.answers_fail(1, [ANSWERS[0], changed((0, 2, 1), (place,), thing)])
        self.fails("answers", 0, 8, COUNTS, RULES, 0, [(0, 2, 1)])

    def test_the_part_that_is_stated_first_is_raised(self):
        self.fails("width", -1, 0, None, None, None, None)
        self.fails("counts", -1, 8, None, None, None, None)
        self.fails("counts", 1, 8, [1, None], None, None, None)
        self.fails("rules", -1, 8, COUNTS, None, None, None)
        self.fails("rules", 0, 8, COUNTS, [None], None, None)
        self.fails("top", -1, 8, COUNTS, RULES, None, None)
        self.fails("answers", -1, 8, COUNTS, RULES, 1, None)

    def test_the_error_is_one_of_the_package(self):
        with self.assertRaises(AttrError):
            Code(0, COUNTS, RULES, 1, ANSWERS)


class RegistersTest(unittest.TestCase):

    def test_against_trees_by_rules(self):
        for seed in range(120):
            grammar, code = small_grammar(seed), random_code(small_grammar(seed), seed)
            for (name, _), states in zip(grammar.kinds, trees_of(grammar)):
                for many in (1, 5) if states else ():
                    tree = random_tree(grammar, name, many, seed)
                    found = registers(grammar, code, tree)
                    self.assertIs(type(found), tuple)
                    self.assertEqual(found, state_by(grammar, code.rules, tree))
                    if name == grammar.top:
                        wish = [form_at(form, found, grammar.width) for form in code.answers]
                        self.assertEqual(code_answers(grammar, code, tree), wish)

    def test_the_attributes_as_registers(self):
        for grammar in (mixed_grammar(), mixed_grammar(1), mixed_grammar(64)):
            code = copying_code(grammar)
            for seed in range(20):
                tree = random_tree(grammar, "b", 6, seed)
                self.assertEqual(registers(grammar, code, tree), value(grammar, tree))
                self.assertEqual(code_answers(grammar, code, tree), answers_of(grammar, tree))

    def test_the_code_of_point_40(self):
        self.assertEqual(registers(sums_grammar(), sums_code(), FIVE), (14,))
        self.assertEqual(code_answers(sums_grammar(), sums_code(), FIVE), [14])
        self.assertEqual(registers(sums_grammar(), sums_code(), [("one", (), (-1,))]), (255,))
        self.assertEqual(registers(sums_grammar(), sums_code(), [("one", (), (10 ** 30 + 7,))]), (10 ** 30 % 256 + 7,))

    def test_no_registers(self):
        code = Code(8, [0, 0], [(0, (), 1, ()), (1, (), 0, ()), (1, (1, 0), 0, ())], 1, [(-3,)])
        self.assertEqual(registers(sums_grammar(), code, FIVE), ())
        self.assertEqual(code_answers(sums_grammar(), code, FIVE), [253])

    def test_16_registers_and_400_terms(self):
        for width in (1, 8, 64):
            grammar = mixed_grammar(width)
            code = largest_code(grammar, width)
            self.assertEqual({len(terms) for rule in code.rules for terms in rule[3]}, {400})
            for seed in range(5):
                tree = random_tree(grammar, "b", 8, seed)
                found = registers(grammar, code, tree)
                self.assertEqual(found, state_by(grammar, code.rules, tree))
                wish = [form_at(form, found, width) for form in code.answers]
                self.assertEqual(code_answers(grammar, code, tree), wish)

    def test_2000_steps(self):
        nodes = nodes_grammar(64)
        code = copying_code(nodes)
        self.assertEqual(registers(nodes, code, doubled_leaves(2000)), (2 ** 64 - 1, 0))
        self.assertEqual(code_answers(nodes, code, tuple(doubled_leaves(2000))), [2 ** 64 - 1])
        with self.assertRaises(NoTree):
            registers(nodes, code, doubled_leaves(2001))

    def test_steps_that_the_root_does_not_use(self):
        tree = [("one", (), (1,)), ("nil", (), ()), ("one", (), (5,)), ("put", (1, 0), ()), ("put", (1, 2), ())]
        self.assertEqual(registers(sums_grammar(), sums_code(), tree), (7,))


class NotOverTest(unittest.TestCase):

    def fails(self, rule, code, grammar=None, tree=FIVE):
        for called in (registers, code_answers):
            with self.assertRaises(NotOver) as caught:
                called(grammar or sums_grammar(), code, tree)
            self.assertEqual(caught.exception.rule, rule)

    def test_no_code(self):
        for thing in odd_values() + [sums_grammar()]:
            if not isinstance(thing, Code):
                self.fails(-1, thing)

    def test_what_differs_first(self):
        for rule, code in codes_not_over_sums():
            self.fails(rule, code)

    def test_names_and_sums_may_differ(self):
        kinds = [("rows", ("a", "b")), ("leafs", ("c", "d", "e"))]
        rules = [("x", "rows", (), 1, ((), ())), ("y", "leafs", (), 0, ((), (), ())),
                 ("z", "leafs", ("leafs", "rows"), 0, ((), (), ()))]
        grammar = Grammar(8, kinds, rules, "leafs", [(0, 0, 0, 0)])
        self.assertEqual(registers(grammar, sums_code(), [("y", (), ())]), (0,))

    def test_not_over_comes_before_no_tree(self):
        self.fails(-1, None, tree=None)
        self.fails(1, Code(8, [1, 1], [sums_code().rules[0], (0, (), 0, ((),)), sums_code().rules[2]], 1, [(0, 1)]),
                   tree=[None])


class WrongTreesTest(unittest.TestCase):

    def test_no_tree(self):
        for called in (registers, code_answers):
            for thing in odd_values():
                for tree, index in ((thing, -1), ([thing], 0), (FIVE + [thing], 4)):
                    if index != -1 or not isinstance(thing, (list, tuple)) or not thing:
                        with self.assertRaises(NoTree) as caught:
                            called(sums_grammar(), sums_code(), tree)
                        self.assertEqual(caught.exception.index, index)

    def test_not_top(self):
        with self.assertRaises(NotTop) as caught:
            code_answers(sums_grammar(), sums_code(), [("one", (), (5,))])
        self.assertEqual(caught.exception.kind, "leaf")
        with self.assertRaises(NoTree):
            code_answers(sums_grammar(), sums_code(), [("one", (), (5,)), ("one", (), ())])
        with self.assertRaises(NotOver):
            code_answers(sums_grammar(), None, [("one", (), (5,))])


class GeneralRulesTest(unittest.TestCase):

    def test_by_name(self):
        sums, code = sums_grammar(), sums_code()
        self.assertEqual(registers(tree=FIVE, code=code, grammar=sums), (14,))
        self.assertEqual(code_answers(tree=FIVE, code=code, grammar=sums), [14])

    def test_lists_and_tuples_give_equal_results(self):
        self.assertEqual(registers(sums_grammar(), sums_code(), tuple(FIVE)), (14,))
        self.assertEqual(code_answers(sums_grammar(), sums_code(), tuple(FIVE)), [14])

    def test_arguments_stay_as_they_were(self):
        sums, code, tree = sums_grammar(), sums_code(), list(FIVE)
        registers(sums, code, tree)
        code_answers(sums, code, tree).append(None)
        self.assertEqual((sums, code, tree), (sums_grammar(), sums_code(), FIVE))
        self.assertEqual(code_answers(sums, code, tree), [14])

    def test_a_grammar_with_kinds_without_trees(self):
        grammar = bare_grammar()
        self.assertEqual(registers(grammar, copying_code(grammar), [("leaf", (), (5,))]), (5,))
        self.assertEqual(code_answers(grammar, copying_code(grammar), [("leaf", (), (5,))]), [12])


if __name__ == "__main__":
    unittest.main()
