"""Stage 7, the judge: point 40, by all attributes and registers that trees of small grammars have together."""

import random
import unittest

from leastattr.codes import Code, code_answers
from leastattr.compiling import compiled
from leastattr.errors import NotOver
from leastattr.grammars import Grammar
from leastattr.judging import judge
from leastattr.trees import answers_of, count_nodes
from brute import (changed_code, copying_code, form_at, padded_code, random_code, small_grammar, small_sum,
                   trees_with)
from samples import (DOUBLING_NODES, are_tidy, bare_grammar, both_grammar, codes_not_over_sums, doubling_grammar,
                     late_grammar, lists_grammar, mixed_grammar, nodes_grammar, nodes_of, odd_values, once_grammar,
                     places_grammar, sums_code, sums_grammar, twice_code)

SEEDS = range(110)


def some_codes(grammar, seed):
    """Codes over a grammar, some of them right."""
    copying, least = copying_code(grammar), compiled(grammar)
    yield from (copying, least, random_code(grammar, seed), padded_code(least, 1, seed))
    for more in range(2):
        yield changed_code(copying, 2 * seed + more)
        yield changed_code(least, 2 * seed + more)


def wrong_nodes(grammar, code):
    """The nodes of the smallest tree on which answers differ, None if there is none."""
    found = trees_with(grammar, code.rules)[[name for name, _ in grammar.kinds].index(grammar.top)]
    nodes = [many for (state, own), many in found.items()
             if [form_at(form, state, grammar.width) for form in grammar.answers]
             != [form_at(form, own, grammar.width) for form in code.answers]]
    return min(nodes, default=None)


class JudgeCase(unittest.TestCase):

    def check_wrong(self, grammar, code, nodes):
        found = judge(grammar, code)
        self.assertTrue(are_tidy(found))
        self.assertEqual(nodes_of(found), nodes)
        self.assertEqual(count_nodes(grammar, found), nodes)
        self.assertNotEqual(answers_of(grammar, found), code_answers(grammar, code, found))


class JudgeTest(JudgeCase):

    def test_against_all_attributes_and_registers(self):
        told = {}
        for seed in SEEDS:
            grammar = small_grammar(seed)
            for code in some_codes(grammar, seed):
                nodes = wrong_nodes(grammar, code)
                told[nodes] = told.get(nodes, 0) + 1
                if nodes is None:
                    self.assertIsNone(judge(grammar, code))
                else:
                    self.check_wrong(grammar, code, nodes)
        self.assertTrue(all(told.get(nodes, 0) > 0 for nodes in (None, 1, 2, 3, 4, 5)), told)

    def test_the_examples(self):
        self.assertIsNone(judge(sums_grammar(), sums_code()))
        self.assertIsNone(judge(once_grammar(), twice_code()))

    def test_copying_codes_are_right(self):
        for make in (sums_grammar, nodes_grammar, places_grammar, mixed_grammar, doubling_grammar, bare_grammar):
            for width in (1, 8, 64):
                self.assertIsNone(judge(make(width), copying_code(make(width))))

    def test_each_answer_counts(self):
        grammar = Grammar(8, [("x", ("a",))], [("leaf", "x", (), 1, (((1, (), 0),),))], "x", [(0, 1), (0, 2), (0, 3)])
        rules = copying_code(grammar).rules
        self.assertIsNone(judge(grammar, Code(8, [1], rules, 0, [(0, 1), (0, 2), (0, 3)])))
        for answers in ([(0, 2), (0, 2), (0, 3)], [(0, 1), (0, 1), (0, 3)], [(0, 1), (0, 2), (1, 3)]):
            self.check_wrong(grammar, Code(8, [1], rules, 0, answers), 1)

    def test_it_is_enough_that_answers_agree_on_all_trees(self):
        # Only even numbers of leaves are there, so half of 128 times them is 0.
        grammar = Grammar(8, [("t", ("n",))], [
            ("two", "t", (), 0, (((2, (), -1),),)),
            ("join", "t", ("t", "t"), 0, (((1, (0, -1), -1), (1, (-1, 0), -1)),)),
        ], "t", [(0, 1)])
        self.assertIsNone(judge(grammar, Code(8, [1], copying_code(grammar).rules, 0, [(0, 129)])))
        self.check_wrong(grammar, Code(8, [1], copying_code(grammar).rules, 0, [(0, 65)]), 1)
        self.check_wrong(grammar, Code(8, [1], copying_code(grammar).rules, 0, [(4, 255)]), 3)

    def test_many_more_nodes_than_steps(self):
        for width in (1, 64):
            grammar = doubling_grammar(width)
            code = copying_code(grammar)
            rules = list(code.rules)
            kind, children, numbers, values = rules[5]
            rules[5] = (kind, children, numbers, values[:2] + ((),))
            self.assertEqual(grammar.rules[5][0], "one")
            wrong = Code(width, code.counts, rules, code.top, code.answers)
            self.check_wrong(grammar, wrong, DOUBLING_NODES)
            self.assertEqual(len(judge(grammar, wrong)), 15)

    def test_more_registers_than_are_needed(self):
        for grammar in (sums_grammar(), sums_grammar(64), mixed_grammar(), places_grammar(64), both_grammar()):
            self.assertIsNone(judge(grammar, padded_code(copying_code(grammar), 2, 1)))
        wrong = padded_code(sums_code(), 3, 2)
        answers = [wrong.answers[0][:2] + (0, 0, 128)]
        found = judge(sums_grammar(), Code(8, wrong.counts, wrong.rules, 1, answers))
        self.assertEqual(None if found is None else nodes_of(found),
                         wrong_nodes(sums_grammar(2), Code(2, wrong.counts, wrong.rules, 1, [(0, 1, 0, 0, 2)])))

    def test_16_registers_and_400_terms(self):
        for grammar in (mixed_grammar(64), places_grammar(64)):
            dice = random.Random(9)
            code = copying_code(grammar)
            counts = [16] * len(code.counts)
            rules = []
            for kind, children, numbers, values in code.rules:
                sizes = [16] * len(children)
                more = [sum((small_sum(dice, 64, sizes, numbers, 8) for _ in range(90)), ())[:400]
                        for _ in range(16 - len(values))]
                rules.append((kind, children, numbers, values + tuple(more)))
            answers = [answer + (0,) * (17 - len(answer)) for answer in code.answers]
            self.assertIsNone(judge(grammar, Code(64, counts, rules, code.top, answers)))
            answers[-1] = answers[-1][:-1] + (2 ** 63,)
            found = judge(grammar, Code(64, counts, rules, code.top, answers))
            self.assertTrue(are_tidy(found))


class LongWaysTest(JudgeCase):
    """Codes whose trees of more and more nodes have larger and larger hulls, until an answer differs."""

    def even_grammar(self, dice):
        """A grammar of width 3 in which many factors are even, so that its hulls grow slowly."""
        names = "ab"[:dice.randrange(1, 3)]
        rules = []
        for at in range(dice.randrange(4, 9)):
            kind = names[at] if at < len(names) else dice.choice(names)
            children = tuple(dice.choice(names) for _ in range(dice.choice([1, 1, 1, 2]))) if at >= len(names) else ()
            numbers = dice.choice([0, 0, 0, 0, 1]) if len(children) < 2 else 0
            terms = tuple((dice.choice([0, 1, 1, 2, 4]), tuple(dice.choice([-1, 0, 0]) for _ in children),
                           dice.randrange(-1, numbers)) for _ in range(dice.randrange(1, 4)))
            rules.append(("r" + "abcdefghi"[at], kind, children, numbers, (terms,)))
        answer = (dice.randrange(8), dice.choice([1, 2, 4]))
        return Grammar(3, [(name, ("x",)) for name in names], rules, names[0], [answer])

    def code_beside(self, grammar, dice):
        """The code that copies the attributes, and whose answers have a multiple of a register more."""
        base = copying_code(grammar)
        rules = []
        for kind, children, numbers, values in base.rules:
            more = tuple((dice.choice([0, 1, 2, 4, 4, 6]), tuple(dice.choice([-1, 1, 1, 0]) for _ in children),
                          dice.randrange(-1, numbers)) for _ in range(dice.randrange(1, 3)))
            rules.append((kind, children, numbers, values + (more,)))
        answers = [answer + (dice.choice([4, 4, 2, 1]),) for answer in base.answers]
        return Code(3, [2] * len(base.counts), rules, base.top, answers)

    def test_hulls_that_grow_slowly(self):
        sizes = set()
        for seed in range(500):
            dice = random.Random(seed)
            grammar = self.even_grammar(dice)
            code = self.code_beside(grammar, dice)
            nodes = wrong_nodes(grammar, code)
            sizes.add(nodes)
            if nodes is None:
                self.assertIsNone(judge(grammar, code))
            else:
                self.check_wrong(grammar, code, nodes)
        self.assertTrue(sizes >= {None, 1, 2, 3, 4, 5}, sizes)

    def test_a_small_child_that_later_ones_make_needless(self):
        grammar = late_grammar()
        code = copying_code(grammar)
        self.check_wrong(grammar, Code(3, code.counts, code.rules, 4, [(0, 0)]), 10)
        self.check_wrong(grammar, Code(3, code.counts, code.rules, 4, [(0, 3)]), 11)
        self.check_wrong(grammar, Code(3, code.counts, code.rules, 4, [(0, 5)]), 13)
        self.assertEqual([wrong_nodes(grammar, Code(3, code.counts, code.rules, 4, [(0, factor)]))
                          for factor in (0, 3, 5)], [10, 11, 13])

    def test_many_registers_beside_the_one_that_is_wrong(self):
        grammar = doubling_grammar(64)
        code = copying_code(grammar)
        rules = list(code.rules)
        kind, children, numbers, values = rules[5]
        rules[5] = (kind, children, numbers, values[:2] + ((),))
        wrong = padded_code(Code(64, code.counts, rules, code.top, code.answers), 6, 64)
        self.check_wrong(grammar, wrong, DOUBLING_NODES)


class EdgesTest(JudgeCase):

    def test_what_no_tree_reaches_may_be_any(self):
        grammar = bare_grammar()
        code = copying_code(grammar)
        rules = list(code.rules)
        for at in (1, 2, 3, 6):
            kind, children, numbers, values = rules[at]
            rules[at] = (kind, children, numbers, tuple(terms + ((9, (-1,) * len(children), -1),) for terms in values))
        self.assertIsNone(judge(grammar, Code(8, code.counts, rules, 0, code.answers)))

    def test_kinds_that_nothing_is_asked_of_may_be_any(self):
        grammar = bare_grammar()
        code = copying_code(grammar)
        rules = list(code.rules[:4]) + [(2, (), 2, ()), (2, (0,), 0, ()), (2, (1, 1), 0, ())]
        self.assertIsNone(judge(grammar, Code(8, [1, 2, 0], rules, 0, code.answers)))

    def test_a_top_kind_without_trees(self):
        grammar = bare_grammar()
        turned = Grammar(8, grammar.kinds, grammar.rules, "none", [(1, 2, 3)])
        rules = [rule[:3] + ((),) for rule in copying_code(grammar).rules]
        self.assertIsNone(judge(turned, Code(8, [0, 0, 0], rules, 1, [(77,)])))

    def test_no_registers(self):
        grammar = Grammar(8, [("x", ("a",))], [("leaf", "x", (), 1, (((16, (), 0), (1, (), -1)),))], "x", [(3, 16)])
        self.assertIsNone(judge(grammar, Code(8, [0], [(0, (), 1, ())], 0, [(19,)])))
        self.check_wrong(grammar, Code(8, [0], [(0, (), 1, ())], 0, [(18,)]), 1)
        empty = Code(8, [0, 0], [rule[:3] + ((),) for rule in sums_code().rules], 1, [(0,)])
        self.check_wrong(sums_grammar(), empty, 3)

    def test_widths_1_and_64(self):
        for width in (1, 64):
            grammar = Grammar(width, [("x", ("a",))], [
                ("leaf", "x", (), 1, (((1, (), 0),),)), ("up", "x", ("x",), 0, (((2 ** (width - 1), (0,), -1),),)),
            ], "x", [(0, 1)])
            rules = [(0, (), 1, (((1, (), 0),),)), (0, (0,), 0, (((-2 ** (width - 1), (0,), -1),),))]
            self.assertIsNone(judge(grammar, Code(width, [1], rules, 0, [(0, 1)])))
            rules[1] = (0, (0,), 0, (((2 ** (width - 1), (0,), -1), (2 ** (width - 1), (-1,), -1)),))
            self.check_wrong(grammar, Code(width, [1], rules, 0, [(0, 1)]), 2)

    def test_a_product_is_seen_only_with_other_numbers(self):
        grammar = Grammar(8, [("x", ("a",))], [
            ("leaf", "x", (), 2, (((3, (), 1),),)), ("mul", "x", ("x", "x"), 1, (((1, (0, 0), 0),),)),
        ], "x", [(0, 1)])
        rules = [(0, (), 2, (((3, (), 1),),)), (0, (0, 0), 1, (((1, (0, 0), 0), (1, (0, -1), -1)),))]
        self.check_wrong(grammar, Code(8, [1], rules, 0, [(0, 1)]), 3)


class NotOverTest(unittest.TestCase):

    def test_not_over(self):
        no_codes = [(-1, thing) for thing in odd_values() if not isinstance(thing, Code)]
        for rule, code in codes_not_over_sums() + no_codes:
            with self.assertRaises(NotOver) as caught:
                judge(sums_grammar(), code)
            self.assertEqual(caught.exception.rule, rule)


class GeneralRulesTest(unittest.TestCase):

    def test_by_name(self):
        self.assertIsNone(judge(code=sums_code(), grammar=sums_grammar()))

    def test_equal_arguments_give_equal_results(self):
        for seed in SEEDS[:40]:
            code, again = (changed_code(copying_code(small_grammar(seed)), seed) for _ in range(2))
            self.assertEqual(judge(small_grammar(seed), code), judge(small_grammar(seed), again))

    def test_arguments_stay_as_they_were_and_lists_are_new(self):
        lists, code = lists_grammar(), Code(8, [2], copying_code(lists_grammar()).rules, 0, [(0, 0, 2)])
        before = Code(8, code.counts, code.rules, 0, code.answers)
        found = judge(lists, code)
        self.assertEqual((lists, code), (lists_grammar(), before))
        found.clear()
        self.assertEqual(nodes_of(judge(lists, code)), 2)


if __name__ == "__main__":
    unittest.main()
