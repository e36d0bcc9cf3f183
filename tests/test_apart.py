"""Stage 9, grammars apart: point 48, by all attributes that trees of two small grammars have together."""

import random
import unittest

from leastattr.apart import apart
from leastattr.errors import NotOver
from leastattr.grammars import Grammar
from leastattr.trees import answers_of, count_nodes
from brute import form_at, plain_rules, small_grammar, small_sum, trees_with
from samples import (DOUBLING_NODES, are_tidy, bare_grammar, doubling_grammar, late_grammar, lists_grammar,
                     mixed_grammar, nodes_grammar, nodes_of, places_grammar, sums_grammar)

SEEDS = range(100)


def with_rule(grammar, at, rule, answers=None):
    """A grammar with another rule at a place."""
    rules = grammar.rules[:at] + (rule,) + grammar.rules[at + 1:]
    return Grammar(grammar.width, grammar.kinds, rules, grammar.top, answers or grammar.answers)


def changed_grammar(grammar, seed):
    """A grammar of the same shape with a term more in some sums, and perhaps another answer."""
    dice = random.Random(seed)
    sizes = {name: len(attributes) for name, attributes in grammar.kinds}
    rules = []
    for name, kind, children, numbers, values in grammar.rules:
        if dice.randrange(3) == 0:
            values = tuple(terms + small_sum(dice, grammar.width, [sizes[child] for child in children], numbers, 0)
                           for terms in values)
        rules.append((name, kind, children, numbers, values))
    answers = list(grammar.answers)
    if dice.randrange(4) == 0:
        answers[-1] = (answers[-1][0],) + tuple(dice.randrange(2 ** grammar.width) for _ in answers[-1][1:])
    return Grammar(grammar.width, grammar.kinds, rules, grammar.top, answers)


def other_grammar(grammar, seed):
    """A grammar of the same shape with other attributes, sums and answers."""
    dice = random.Random(seed)
    sizes = {name: dice.randrange(1, 3 if grammar.width < 3 else 2) for name, _ in grammar.kinds}
    rules = [(name, kind, children, numbers,
              tuple(small_sum(dice, grammar.width, [sizes[child] for child in children], numbers)
                    for _ in range(sizes[kind])))
             for name, kind, children, numbers, _ in grammar.rules]
    answers = [tuple(dice.randrange(2 ** grammar.width) for _ in range(sizes[grammar.top] + 1))
               for _ in grammar.answers]
    kinds = [(name, ("p", "q")[:sizes[name]]) for name, _ in grammar.kinds]
    return Grammar(grammar.width, kinds, rules, grammar.top, answers)


def apart_nodes(one, other):
    """The nodes of the smallest tree on which answers differ, None if there is none."""
    found = trees_with(one, plain_rules(other))[[name for name, _ in one.kinds].index(one.top)]
    nodes = [many for (state, own), many in found.items()
             if [form_at(form, state, one.width) for form in one.answers]
             != [form_at(form, own, one.width) for form in other.answers]]
    return min(nodes, default=None)


class ApartCase(unittest.TestCase):

    def check_apart(self, one, other, nodes):
        for first, second in ((one, other), (other, one)):
            found = apart(first, second)
            self.assertTrue(are_tidy(found))
            self.assertEqual(nodes_of(found), nodes)
            self.assertEqual(count_nodes(first, found), nodes)
            self.assertNotEqual(answers_of(first, found), answers_of(second, found))


class ApartTest(ApartCase):

    def test_against_all_attributes(self):
        told = {}
        for seed in SEEDS:
            one = small_grammar(seed)
            for other in (changed_grammar(one, seed), changed_grammar(one, seed + 1000), other_grammar(one, seed)):
                nodes = apart_nodes(one, other)
                told[nodes] = told.get(nodes, 0) + 1
                if nodes is None:
                    self.assertIsNone(apart(one, other))
                    self.assertIsNone(apart(other, one))
                else:
                    self.check_apart(one, other, nodes)
        self.assertTrue(all(told.get(nodes, 0) > 0 for nodes in (None, 1, 2, 3, 4, 5)), told)

    def test_the_example(self):
        found = apart(lists_grammar(), lists_grammar((0, 0, 3)))
        self.assertEqual([step[0] for step in found], ["nil", "cons"])
        self.check_apart(lists_grammar(), lists_grammar((0, 0, 3)), 2)

    def test_a_grammar_is_not_apart_from_itself(self):
        for make in (sums_grammar, nodes_grammar, places_grammar, mixed_grammar, doubling_grammar, bare_grammar):
            for width in (1, 8, 64):
                self.assertIsNone(apart(make(width), make(width)))

    def test_attributes_sums_and_forms_may_differ(self):
        short = Grammar(8, [("list", ("double",))], [
            ("nil", "list", (), 0, ((),)), ("cons", "list", ("list",), 1, (((1, (0,), -1), (2, (-1,), 0)),)),
        ], "list", [(0, 129)])
        self.assertIsNotNone(apart(lists_grammar(), short))
        self.assertIsNone(apart(lists_grammar((0, 0, 2)), short))
        self.assertIsNone(apart(short, lists_grammar((0, 0, 2))))

    def test_many_more_nodes_than_steps(self):
        for width in (1, 64):
            one = doubling_grammar(width)
            name, kind, children, numbers, values = one.rules[5]
            other = with_rule(one, 5, (name, kind, children, numbers, values[:2] + ((),)))
            self.check_apart(one, other, DOUBLING_NODES)
            self.assertEqual(len(apart(one, other)), 15)

    def test_a_small_child_that_later_ones_make_needless(self):
        one = late_grammar()
        for factor, nodes in ((0, 10), (3, 11), (5, 13)):
            self.check_apart(one, Grammar(3, one.kinds, one.rules, "t", [(0, factor)]), nodes)

    def test_any_answer_may_differ(self):
        one = Grammar(8, [("x", ("a",))], [("leaf", "x", (), 1, (((1, (), 0),),))], "x", [(0, 1), (0, 2), (0, 3)])
        for answers in ([(1, 1), (0, 2), (0, 3)], [(0, 1), (0, 130), (0, 3)], [(0, 1), (0, 2), (0, 2)]):
            self.check_apart(one, Grammar(8, one.kinds, one.rules, "x", answers), 1)


class EdgesTest(ApartCase):

    def test_what_no_tree_reaches_may_be_any(self):
        one = bare_grammar()
        for at, change in ((1, ((9, (-1, -1), -1),)), (3, ((9, (-1, -1), -1),)), (6, ())):
            name, kind, children, numbers, values = one.rules[at]
            other = with_rule(one, at, (name, kind, children, numbers, (change,) * len(values)))
            self.assertIsNone(apart(one, other))

    def test_kinds_that_nothing_is_asked_of_may_be_any(self):
        one = bare_grammar()
        self.assertIsNone(apart(one, with_rule(one, 4, ("only", "lone", (), 2, ((),)))))

    def test_a_top_kind_without_trees(self):
        one = bare_grammar()
        turned = [Grammar(8, one.kinds, one.rules, "none", [answer]) for answer in ((1, 2, 3), (3, 2, 1))]
        self.assertIsNone(apart(*turned))

    def test_widths_1_and_64(self):
        for width in (1, 64):
            one = Grammar(width, [("x", ("a",))], [
                ("leaf", "x", (), 1, (((1, (), 0),),)), ("up", "x", ("x",), 0, (((1, (0,), -1),),)),
            ], "x", [(0, 1)])
            self.assertIsNone(apart(one, with_rule(one, 1, ("up", "x", ("x",), 0, (((1 + 2 ** width, (0,), -1),),)))))
            self.check_apart(one, with_rule(one, 1, ("up", "x", ("x",), 0, (((1 + 2 ** (width - 1), (0,), -1),),))), 2)


class NotOverTest(unittest.TestCase):

    def fails(self, rule, one, other):
        for first, second in ((one, other), (other, one)):
            with self.assertRaises(NotOver) as caught:
                apart(first, second)
            self.assertEqual(caught.exception.rule, rule)

    def test_width_kinds_top_answers_and_how_many_rules(self):
        sums = sums_grammar()
        self.fails(-1, sums, sums_grammar(9))
        self.fails(-1, sums, Grammar(8, sums.kinds + (("more", ("x",)),), sums.rules, "row", sums.answers))
        self.fails(-1, sums, Grammar(8, sums.kinds, sums.rules, "leaf", [(0, 1)]))
        self.fails(-1, sums, Grammar(8, sums.kinds, sums.rules, "row", sums.answers * 2))
        self.fails(-1, sums, Grammar(8, sums.kinds, sums.rules[:2], "row", sums.answers))
        self.fails(-1, sums, Grammar(8, sums.kinds[::-1], sums.rules, "row", sums.answers))

    def test_other_names_of_kinds(self):
        one = Grammar(8, [("a", ("x",))], [("leaf", "a", (), 0, ((),))], "a", [(0, 1)])
        self.fails(-1, one, Grammar(8, [("b", ("x",))], [("leaf", "b", (), 0, ((),))], "b", [(0, 1)]))
        self.assertIsNone(apart(one, Grammar(8, [("a", ("y",))], [("leaf", "a", (), 0, ((),))], "a", [(0, 1)])))

    def test_the_first_rule_that_differs(self):
        sums = sums_grammar()
        two = ((), ())
        for at, rule in ((0, ("two", "leaf", (), 1, ((),))), (0, ("one", "row", (), 1, two)),
                         (0, ("one", "leaf", (), 2, ((),))), (0, ("one", "leaf", ("leaf",), 1, ((),))),
                         (1, ("nil", "row", (), 1, two)), (2, ("put", "row", ("leaf", "row"), 0, two)),
                         (2, ("put", "row", ("row",), 0, two)), (2, ("put", "leaf", ("row", "leaf"), 0, ((),)))):
            self.fails(at, sums, with_rule(sums, at, rule))
        turned = Grammar(8, sums.kinds, (sums.rules[0], sums.rules[2], sums.rules[1]), "row", sums.answers)
        self.fails(1, sums, turned)

    def test_minus_one_comes_before_the_rules(self):
        sums = sums_grammar()
        other = with_rule(sums, 0, ("two", "leaf", (), 1, ((),)), [(0, 1, 1), (0, 1, 1)])
        self.fails(-1, sums, other)


class GeneralRulesTest(unittest.TestCase):

    def test_by_name(self):
        found = apart(other=lists_grammar((0, 0, 3)), one=lists_grammar())
        self.assertEqual(found, apart(lists_grammar(), lists_grammar((0, 0, 3))))

    def test_arguments_stay_as_they_were_and_lists_are_new(self):
        one, other = lists_grammar(), lists_grammar((0, 0, 3))
        apart(one, other).clear()
        self.assertEqual((one, other), (lists_grammar(), lists_grammar((0, 0, 3))))
        self.assertEqual(len(apart(one, other)), 2)


if __name__ == "__main__":
    unittest.main()
