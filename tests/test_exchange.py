"""Stage 9: points 49 to 51, judged by grammars in which all trees and all contexts are tried one by one."""

import copy
import random
import unittest

from leastattr.errors import NoTree, WrongKind
from leastattr.exchange import exchangeable, groups, shortened
from leastattr.grammars import Grammar
from leastattr.trees import answers_of, count_nodes, fill, kind_of, kinds_of_context, value
from brute import asked_of, minus, product, small_grammar, trees_of
from samples import (DOUBLING_NODES, FIVE, are_tidy, bare_grammar, doubled_leaves, doubling_grammar, lists_grammar,
                     mixed_grammar, no_integers, nodes_grammar, nodes_of, odd_values, places_grammar, random_context,
                     random_tree, sums_grammar, tree_index, wide_grammar)

SEEDS = range(120)
NIL = ("nil", (), ())


def cons(*numbers):
    """The tree of `lists` with these numbers."""
    return [NIL] + [("cons", (at,), (number,)) for at, number in enumerate(numbers)]


def worlds(seeds):
    """Small grammars, with the attributes of all trees, what all contexts ask, and some dice."""
    for seed in seeds:
        grammar = small_grammar(seed)
        trees = trees_of(grammar)
        yield grammar, trees, asked_of(grammar, trees), random.Random(seed)


def places_of(grammar):
    """The indexes of the kinds by their names."""
    return {name: place for place, (name, _) in enumerate(grammar.kinds)}


def trees_at_hand(grammar, trees, dice, many):
    """Some trees of each kind that has trees."""
    found = []
    for (name, _), states in zip(grammar.kinds, trees):
        if states:
            found += [random_tree(grammar, name, dice.randrange(1, 9), dice.random()) for _ in range(many)]
    return found


def parting_nodes(grammar, rows, one, other):
    """The fewest nodes of a context that does not give alike answers with two trees of a kind, None if all do."""
    more = minus(grammar.width, value(grammar, one), value(grammar, other))
    return min([nodes for row, nodes in rows.items() if product(grammar.width, row, more)], default=None)


class ExchangeableTest(unittest.TestCase):

    def check_told(self, grammar, one, other, told, nodes):
        self.assertIs(type(told), tuple)
        context, index = told
        self.assertTrue(are_tidy(context))
        self.assertEqual(nodes_of(context), nodes)
        self.assertEqual(kinds_of_context(grammar, context), (kind_of(grammar, one), grammar.top))
        answers = [answers_of(grammar, fill(grammar, context, tree)) for tree in (one, other)]
        differing = [at for at, (a, b) in enumerate(zip(*answers)) if a != b]
        self.assertEqual(index, differing[0])

    def test_against_all_contexts(self):
        told_nodes, indexes = set(), set()
        for grammar, trees, asked, dice in worlds(SEEDS):
            for one in trees_at_hand(grammar, trees, dice, 5):
                kind = kind_of(grammar, one)
                other = random_tree(grammar, kind, dice.randrange(1, 9), dice.random())
                nodes = parting_nodes(grammar, asked[places_of(grammar)[kind]], one, other)
                told = exchangeable(grammar, one, other)
                if nodes is None:
                    self.assertIsNone(told)
                    told_nodes.add((None, value(grammar, one) == value(grammar, other)))
                else:
                    self.check_told(grammar, one, other, told, nodes)
                    told_nodes.add(nodes)
                    indexes.add(told[1])
        self.assertTrue(told_nodes >= {0, 1, 2, 4, (None, True), (None, False)}, told_nodes)
        self.assertEqual(indexes, {0, 1})

    def test_the_examples(self):
        lists = lists_grammar()
        self.assertEqual(exchangeable(lists, cons(3), cons(4)), ([("", "list")], 0))
        self.assertIsNone(exchangeable(lists, cons(), cons(0)))

    def test_trees_of_unlike_attributes_that_are_alike(self):
        lists = lists_grammar()
        self.assertIsNone(exchangeable(lists, cons(5, -5, 256), cons()))
        self.assertIsNone(exchangeable(lists, cons(10 ** 30), cons(0, 0, 10 ** 30 % 256)))

    def test_a_kind_from_which_no_context_leads_to_the_top_kind(self):
        bare = bare_grammar()
        for one in ([("only", (), (1, 2))], [("leaf", (), (9,)), ("wrap", (0,), ())]):
            self.assertIsNone(exchangeable(bare, one, [("only", (), (0, 0))]))

    def test_the_least_index_of_the_answers_that_differ(self):
        lists = lists_grammar()
        grammar = Grammar(8, lists.kinds, lists.rules, "list", [(0, 0, 128), (5, 0, 0), (0, 0, 2), (0, 0, 1)])
        for number, index in ((1, 0), (2, 2), (4, 2), (128, 3), (64, 2), (3, 0), (256, None)):
            told = exchangeable(grammar, cons(0), cons(number))
            self.assertEqual(told, None if index is None else ([("", "list")], index))

    def test_a_context_with_more_nodes_may_be_needed(self):
        places = places_grammar()
        one, other = [("leaf", (), (0,))], [("leaf", (), (0,)), ("join", (0, 0), ())]
        self.check_told(places, one, other, exchangeable(places, one, other), 2)
        doubling = doubling_grammar(64)
        one, other = [("leaf", (), ())], [("leaf", (), ()), ("ona", (0, 0), ())]
        found = exchangeable(doubling, one, other)
        self.check_told(doubling, one, other, found, DOUBLING_NODES - 3)

    def test_trees_of_2000_steps(self):
        nodes = nodes_grammar(64)
        deep = doubled_leaves(2000)
        self.assertEqual(exchangeable(nodes, deep, [("leaf", (), ())]), ([("", "t")], 0))
        self.assertIsNone(exchangeable(nodes, deep, tuple(doubled_leaves(1900))))
        self.assertIsNone(exchangeable(nodes_grammar(1), deep, [("leaf", (), ())]))

    def test_a_wide_grammar(self):
        wide = wide_grammar(64, 3)
        one, other = random_tree(wide, "d", 50, 1), random_tree(wide, "d", 50, 2)
        told = exchangeable(wide, one, other)
        answers = [answers_of(wide, fill(wide, told[0], tree))[told[1]] for tree in (one, other)]
        self.assertNotEqual(*answers)

    def test_no_tree_then_wrong_kind(self):
        sums = sums_grammar()
        leaf = [("one", (), (1,))]
        for thing in odd_values():
            own = tree_index(thing)
            for one, other, index in ((thing, FIVE, own), (FIVE, thing, own), (thing, None, own),
                                      (FIVE + [thing], thing, 4), (leaf, [FIVE[0], thing], 1)):
                with self.assertRaises(NoTree) as caught:
                    exchangeable(sums, one, other)
                self.assertEqual(caught.exception.index, index)
        for one, other, kind in ((leaf, FIVE, "row"), (FIVE, leaf, "leaf")):
            with self.assertRaises(WrongKind) as caught:
                exchangeable(sums, one, other)
            self.assertEqual(caught.exception.kind, kind)


def alike(grammar, asked, one, other):
    """Whether two trees are of one kind and may be exchanged, by all contexts."""
    kind = kind_of(grammar, one)
    if kind != kind_of(grammar, other):
        return False
    return parting_nodes(grammar, asked[places_of(grammar)[kind]], one, other) is None


class GroupsTest(unittest.TestCase):

    def test_against_all_contexts(self):
        for grammar, trees, asked, dice in worlds(SEEDS):
            handed = trees_at_hand(grammar, trees, dice, 5)
            dice.shuffle(handed)
            wish = []
            for index, tree in enumerate(handed):
                mates = [group for group in wish if alike(grammar, asked, handed[group[0]], tree)]
                (mates[0] if mates else wish).append(index if mates else [index])
            self.assertEqual(groups(grammar, handed), wish)
            self.assertEqual(groups(grammar, tuple(tuple(tree) for tree in handed)), wish)

    def test_the_example(self):
        self.assertEqual(groups(lists_grammar(), [cons(), cons(3), cons(0), cons(3)]), [[0, 2], [1, 3]])

    def test_no_trees_and_sixty(self):
        lists = lists_grammar()
        self.assertEqual(groups(lists, []), [])
        self.assertEqual(groups(lists, ()), [])
        sixty = [cons(number % 7) for number in range(60)]
        self.assertEqual(groups(lists, sixty), [list(range(first, 60, 7)) for first in range(7)])
        for many in (61, 100):
            with self.assertRaises(NoTree) as caught:
                groups(lists, [cons()] * many)
            self.assertEqual(caught.exception.index, -1)

    def test_trees_of_several_kinds(self):
        bare = bare_grammar()
        trees = [[("only", (), (1, 2))], [("leaf", (), (3,))], [("only", (), (5, 6))], [("leaf", (), (259,))],
                 [("leaf", (), (4,))]]
        self.assertEqual(groups(bare, trees), [[0, 2], [1, 3], [4]])
        sums = sums_grammar()
        self.assertEqual(groups(sums, [[("one", (), (0,))], [NIL], [("one", (), (256,))]]), [[0, 2], [1]])

    def test_sixty_trees_of_2000_steps(self):
        nodes = nodes_grammar(64)
        deep = [doubled_leaves(1941 + many) for many in range(60)]
        self.assertEqual(groups(nodes, deep), [list(range(60))])
        self.assertEqual(groups(nodes, [doubled_leaves(many + 1) for many in range(60)]),
                         [[index] for index in range(60)])

    def test_wrong_arguments(self):
        sums = sums_grammar()
        for thing in odd_values():
            if not isinstance(thing, (list, tuple)):
                with self.assertRaises(NoTree) as caught:
                    groups(sums, thing)
                self.assertEqual(caught.exception.index, -1)
            for trees, index in (([FIVE, thing], tree_index(thing)), ((FIVE, FIVE + [thing], None), 4),
                                 ([[thing], thing], 0)):
                with self.assertRaises(NoTree) as caught:
                    groups(sums, trees)
                self.assertEqual(caught.exception.index, index)
        with self.assertRaises(NoTree) as caught:
            groups(sums, [[None]] * 61)
        self.assertEqual(caught.exception.index, -1)
        with self.assertRaises(NoTree):
            groups(sums, {0: FIVE})


def shortened_by(grammar, asked, tree):
    """What point 51 says, by trying all contexts with all pairs of steps."""
    own = [list(tree[:at + 1]) for at in range(len(tree))]
    nodes = [nodes_of(steps) for steps in own]
    chosen = []
    for steps in own:
        mates = [at for at, other in enumerate(own) if alike(grammar, asked, steps, other)]
        chosen.append(min(mates, key=lambda at: (nodes[at], at)))
    needed = [chosen[-1]]
    for at in needed:
        needed += [chosen[place] for place in tree[at][1] if chosen[place] not in needed]
    order = sorted(set(needed), key=lambda at: (nodes[at], at))
    return [(tree[at][0], tuple(order.index(chosen[place]) for place in tree[at][1]), tree[at][2]) for at in order]


class ShortenedTest(unittest.TestCase):

    def test_against_all_contexts(self):
        lengths = set()
        for grammar, trees, asked, dice in worlds(SEEDS):
            for tree in trees_at_hand(grammar, trees, dice, 3):
                found = shortened(grammar, tree)
                self.assertEqual(found, shortened_by(grammar, asked, tree))
                self.assertTrue(alike(grammar, asked, found, tree))
                self.assertLessEqual(count_nodes(grammar, found), count_nodes(grammar, tree))
                self.assertEqual(len(groups(grammar, [found[:at + 1] for at in range(len(found))])), len(found))
                lengths.add((len(tree), len(found)))
        self.assertTrue(any(few > 3 for _, few in lengths))
        self.assertTrue(any(many > few + 3 for many, few in lengths))

    def test_the_example(self):
        self.assertEqual(shortened(lists_grammar(), cons(4, -4, 7)), [NIL, ("cons", (0,), (7,))])

    def test_numbers_are_as_they_were_passed(self):
        lists = lists_grammar()
        self.assertEqual(shortened(lists, cons(10 ** 30 + 1, -3)), cons(10 ** 30 + 1, -3))
        self.assertEqual(shortened(lists, cons(-300)), cons(-300))
        self.assertEqual(shortened(lists, cons(256)), [NIL])

    def test_of_equally_many_nodes_the_first_one(self):
        lists = lists_grammar()
        tree = [NIL, NIL, ("cons", (1,), (259,)), ("cons", (0,), (3,)), ("cons", (3,), (1,))]
        self.assertEqual(shortened(lists, tree), [NIL, ("cons", (0,), (259,)), ("cons", (1,), (1,))])

    def test_steps_that_the_root_does_not_use_may_stand_for_others(self):
        lists = lists_grammar()
        tree = [NIL, ("cons", (0,), (4,)), ("cons", (1,), (5,)), ("cons", (0,), (9,)), ("cons", (2,), (2,))]
        self.assertEqual(shortened(lists, tree), [NIL, ("cons", (0,), (9,)), ("cons", (1,), (2,))])
        self.assertEqual(shortened(lists, tree[:4] + [NIL]), [NIL])

    def test_the_order_is_that_of_the_nodes(self):
        places = places_grammar(64)
        tree = [("leaf", (), (5,)), ("join", (0, 0), ()), ("leaf", (), (7,)), ("join", (1, 2), ()),
                ("join", (2, 3), ())]
        wish = [("leaf", (), (5,)), ("leaf", (), (7,)), ("join", (0, 0), ()), ("join", (2, 1), ()),
                ("join", (1, 3), ())]
        self.assertEqual(shortened(places, tree), wish)

    def test_a_kind_from_which_no_context_leads_to_the_top_kind(self):
        tree = [("leaf", (), (9,)), ("only", (), (1, 2)), ("wrap", (0,), ())]
        self.assertEqual(shortened(bare_grammar(), tree), [("only", (), (1, 2))])
        self.assertEqual(shortened(bare_grammar(), [tree[0], ("wrap", (0,), ())]), [tree[0], ("wrap", (0,), ())])

    def test_2000_steps(self):
        nodes = nodes_grammar(64)
        deep = doubled_leaves(2000)
        self.assertEqual(shortened(nodes, deep), doubled_leaves(64))
        lists = Grammar(64, lists_grammar().kinds, lists_grammar().rules, "list", [(0, 0, 1)])
        self.assertEqual(shortened(lists, cons(*range(1, 2000))), cons(*range(1, 2000)))
        self.assertEqual(shortened(lists, tuple(cons(*[0] * 1999))), [NIL])

    def test_a_wide_grammar(self):
        wide = wide_grammar(64, 5)
        tree = random_tree(wide, wide.rules[0][1], 1990, 5)
        found = shortened(wide, tree)
        self.assertIsNone(exchangeable(wide, found, tree))
        self.assertTrue(are_tidy(found))

    def test_no_tree(self):
        for thing in odd_values():
            for tree, index in ((thing, tree_index(thing)), (FIVE + [thing], 4), ([thing, FIVE[0]], 0)):
                with self.assertRaises(NoTree) as caught:
                    shortened(sums_grammar(), tree)
                self.assertEqual(caught.exception.index, index)
        for thing in no_integers():
            with self.assertRaises(NoTree):
                shortened(sums_grammar(), [("one", (), (thing,))])


class GeneralRulesTest(unittest.TestCase):

    def test_by_name(self):
        lists = lists_grammar()
        self.assertEqual(exchangeable(other=cons(4), one=cons(3), grammar=lists), ([("", "list")], 0))
        self.assertEqual(groups(trees=[cons()], grammar=lists), [[0]])
        self.assertEqual(shortened(tree=cons(0), grammar=lists), [NIL])

    def test_lists_and_tuples_are_alike(self):
        mixed = mixed_grammar(5)
        for seed in range(10):
            one, other = random_tree(mixed, "a", 6, seed), random_tree(mixed, "a", 6, seed + 50)
            self.assertEqual(exchangeable(mixed, tuple(one), other), exchangeable(mixed_grammar(5), one, tuple(other)))
            self.assertEqual(shortened(mixed, tuple(one)), shortened(mixed, one))

    def test_arguments_stay_as_they_were_and_results_may_be_changed(self):
        lists, trees = lists_grammar(), [cons(3), cons(4), cons(3)]
        wish = copy.deepcopy(trees)
        exchangeable(lists, trees[0], trees[1])[0].clear()
        groups(lists, trees)[0].append(9)
        groups(lists, trees).clear()
        shortened(lists, trees[0]).append(9)
        self.assertEqual(trees, wish)
        self.assertEqual(exchangeable(lists, trees[0], trees[1]), ([("", "list")], 0))
        self.assertEqual(groups(lists, trees), [[0, 2], [1]])
        self.assertEqual(shortened(lists, trees[0]), cons(3))
        self.assertEqual(lists, lists_grammar())

    def test_told_contexts_agree_with_random_ones(self):
        mixed = mixed_grammar(2)
        for seed in range(40):
            one, other = random_tree(mixed, "b", 6, seed), random_tree(mixed, "b", 6, seed + 50)
            if exchangeable(mixed, one, other) is None:
                context = random_context(mixed, "b", 6, seed)
                if kinds_of_context(mixed, context)[1] == "b":
                    told = [answers_of(mixed, fill(mixed, context, tree)) for tree in (one, other)]
                    self.assertEqual(*told)


if __name__ == "__main__":
    unittest.main()
