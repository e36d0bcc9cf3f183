"""Stage 2, trees: points 9 and 10, and the general rules 2 and 3 for them."""

import copy
import unittest

from leastattr.errors import NotTop, NoTree
from leastattr.grammars import Grammar
from leastattr.trees import answers_of, count_nodes, kind_of, value
from samples import (FIVE, doubled_leaves, mixed_grammar, no_integers, nodes_grammar, odd_values, places_grammar,
                     random_tree, sums_grammar)

ALL_FOUR = [value, kind_of, count_nodes, answers_of]


def written_out(steps, at=-1):
    """The tree that is meant, as nested tuples of rules, children and numbers."""
    name, places, numbers = steps[at]
    return name, [written_out(steps, place) for place in places], numbers


def nodes_in(node):
    """How many nodes a tree that is written out has."""
    return 1 + sum(nodes_in(child) for child in node[1])


def state_in(grammar, node):
    """The attributes of the root of a tree that is written out, straight from point 6."""
    rules = {rule[0]: rule for rule in grammar.rules}
    children = [state_in(grammar, child) for child in node[1]]
    state = []
    for terms in rules[node[0]][4]:
        total = 0
        for factor, picks, number in terms:
            product = factor
            for child, pick in enumerate(picks):
                product *= children[child][pick] if pick >= 0 else 1
            product *= node[2][number] if number >= 0 else 1
            total += product
        state.append(total % 2 ** grammar.width)
    return tuple(state)


class TreeCase(unittest.TestCase):

    def fails(self, index, grammar, tree):
        for called in ALL_FOUR:
            with self.assertRaises(NoTree) as caught:
                called(grammar, tree)
            self.assertEqual(caught.exception.index, index)


class ValuesTest(TreeCase):

    def test_the_example_of_point_10(self):
        sums = sums_grammar()
        self.assertEqual(value(sums, FIVE), (2, 10))
        self.assertEqual(answers_of(sums, FIVE), [14])
        self.assertEqual(count_nodes(sums, FIVE), 5)
        self.assertEqual(kind_of(sums, FIVE), "row")

    def test_trees_of_one_step(self):
        sums = sums_grammar()
        self.assertEqual(value(sums, [("one", (), (7,))]), (7,))
        self.assertEqual(kind_of(sums, [("one", (), (7,))]), "leaf")
        self.assertEqual(count_nodes(sums, [("one", (), (7,))]), 1)
        self.assertEqual(value(sums, [("nil", (), ())]), (0, 0))
        self.assertEqual(answers_of(sums, [("nil", (), ())]), [0])

    def test_against_trees_written_out(self):
        for grammar in (mixed_grammar(), mixed_grammar(1), mixed_grammar(64), places_grammar(5), sums_grammar(3)):
            for seed in range(40):
                kind = grammar.kinds[seed % len(grammar.kinds)][0]
                tree = random_tree(grammar, kind, 7, seed)
                node = written_out(tree)
                self.assertEqual(value(grammar, tree), state_in(grammar, node))
                self.assertEqual(count_nodes(grammar, tree), nodes_in(node))
                self.assertEqual(kind_of(grammar, tree), kind)

    def test_answers_in_order(self):
        mixed = mixed_grammar(8)
        tree = [("lb", (), ()), ("ua", (0,), (2,)), ("ub", (1,), (3, -1))]
        # z = 5; x = 2 * 5 * 2 + 2, y = 5 + 7; z = 22 * 3 + 3 * 12 * -1 + 1
        self.assertEqual(value(mixed, tree), (31,))
        self.assertEqual(answers_of(mixed, tree), [1 + 2 * 31, -1 + 3 * 31])

    def test_values_and_answers_are_reduced(self):
        grammar = Grammar(4, [("k", ("x",))], [("r", "k", (), 1, (((3, (), 0),),))], "k", [(15, 1), (0, -1)])
        self.assertEqual(value(grammar, [("r", (), (6,))]), (2,))
        self.assertEqual(answers_of(grammar, [("r", (), (6,))]), [1, 14])

    def test_numbers_of_any_size(self):
        sums = sums_grammar()
        for number in (-1, -256, 255, 256, 10 ** 400 + 3, -10 ** 400 - 3):
            tree = [("nil", (), ()), ("one", (), (number,)), ("put", (0, 1), ())]
            self.assertEqual(value(sums, tree), (1, number % 256))

    def test_widths_1_and_64(self):
        for width in (1, 64):
            sums = sums_grammar(width)
            self.assertEqual(value(sums, [("one", (), (-1,))]), (2 ** width - 1,))
            self.assertEqual(value(sums, FIVE), (2 % 2 ** width, 10 % 2 ** width))
        tree = [("leaf", (), (2 ** 63,)), ("join", (0, 0), ())]
        self.assertEqual(value(places_grammar(64), tree), (2, 0, 2 ** 63))

    def test_children_in_order(self):
        tree = [("leaf", (), (3,)), ("leaf", (), (4,)), ("join", (0, 1), ()), ("join", (1, 2), ())]
        self.assertEqual(value(places_grammar(), tree), (3, 11, 11))

    def test_steps_that_the_root_does_not_use(self):
        tree = [("one", (), (1,)), ("nil", (), ()), ("one", (), (5,)), ("put", (1, 0), ()), ("put", (1, 2), ())]
        self.assertEqual(value(sums_grammar(), tree), (1, 5))
        self.assertEqual(count_nodes(sums_grammar(), tree), 3)


class LargeTreesTest(TreeCase):

    def test_2000_steps_that_double(self):
        tree = doubled_leaves(2000)
        self.assertEqual(count_nodes(nodes_grammar(), tree), 2 ** 2000 - 1)
        self.assertEqual(value(nodes_grammar(64), tree), (2 ** 64 - 1, 0))
        self.assertEqual(kind_of(nodes_grammar(), tree), "t")
        self.assertEqual(answers_of(nodes_grammar(1), tree), [1])

    def test_2000_steps_of_which_some_are_shared(self):
        steps = [("leaf", (), (1,))]
        for place in range(1999):
            steps.append(("join", (place, place // 2), ()))
        leaves = [1]
        for place in range(1999):
            leaves.append(leaves[place] + leaves[place // 2])
        self.assertEqual(value(places_grammar(64), steps)[:2], (leaves[-1] % 2 ** 64, leaves[-1] % 2 ** 64))
        self.assertEqual(count_nodes(places_grammar(), steps), 2 * leaves[-1] - 1)

    def test_2001_steps_are_no_tree(self):
        self.fails(-1, nodes_grammar(), doubled_leaves(2001))
        self.fails(-1, nodes_grammar(), [None] * 2001)

    def test_the_last_of_2000_steps_may_be_wrong(self):
        self.fails(1999, nodes_grammar(), doubled_leaves(1999) + [("join", (1999, 0), ())])


class WrongTreesTest(TreeCase):

    def test_no_list(self):
        for thing in odd_values():
            if not isinstance(thing, (list, tuple)) or not thing:
                self.fails(-1, sums_grammar(), thing)

    def test_wrong_items(self):
        wrong = [["nil", (), ()], ("nil", ()), ("nil", (), (), ()), ("", "row"), ("", (), ()), "nil"]
        for thing in odd_values() + wrong:
            self.fails(0, sums_grammar(), [thing])
            self.fails(1, sums_grammar(), (("nil", (), ()), thing, None))

    def test_wrong_rules(self):
        for thing in odd_values() + ["row", "on", "oneone"]:
            self.fails(1, sums_grammar(), [("nil", (), ()), (thing, (), ())])

    def test_wrong_collections_of_places(self):
        base = [("nil", (), ()), ("one", (), (5,))]
        for thing in odd_values() + [[0, 1], (0,), (0, 1, 0), (0, 1, 1), {0: 0, 1: 1}]:
            self.fails(2, sums_grammar(), base + [("put", thing, ())])
        for thing in odd_values() + [[], (0,)]:
            if thing != () or not isinstance(thing, tuple):
                self.fails(0, sums_grammar(), [("nil", thing, ())])

    def test_wrong_places(self):
        base = [("nil", (), ()), ("one", (), (5,))]
        for thing in no_integers() + [-1, -2, 2, 3, 1, 10 ** 30]:
            self.fails(2, sums_grammar(), base + [("put", (thing, 1), ())])
        for thing in no_integers() + [-1, -2, 2, 3, 0, 10 ** 30]:
            self.fails(2, sums_grammar(), base + [("put", (0, thing), ())])

    def test_a_step_is_not_its_own_child(self):
        self.fails(0, nodes_grammar(), [("join", (0, 0), ())])
        self.fails(1, nodes_grammar(), [("leaf", (), ()), ("join", (0, 1), ())])

    def test_wrong_numbers(self):
        for thing in odd_values() + [[5], (5, 5), 5]:
            if not isinstance(thing, tuple) or thing != (5,):
                self.fails(0, sums_grammar(), [("one", (), thing)])
        for thing in no_integers():
            self.fails(0, sums_grammar(), [("one", (), (thing,))])
            self.fails(0, mixed_grammar(), [("la", (), (1, thing))])
        self.fails(0, sums_grammar(), [("nil", (), (0,))])

    def test_the_first_wrong_item_is_told(self):
        self.fails(1, sums_grammar(), [("nil", (), ()), ("one", (), ()), None])

    def test_steps_that_the_root_does_not_use_are_checked(self):
        self.fails(0, sums_grammar(), [("one", (), ()), ("nil", (), ())])


class NotTopTest(TreeCase):

    def test_another_kind_at_the_root(self):
        with self.assertRaises(NotTop) as caught:
            answers_of(sums_grammar(), [("one", (), (5,))])
        self.assertEqual(caught.exception.kind, "leaf")

    def test_the_kind_of_the_root_counts_alone(self):
        answers = answers_of(sums_grammar(), [("one", (), (5,)), ("nil", (), ()), ("put", (1, 0), ())])
        self.assertEqual(answers, [7])
        with self.assertRaises(NotTop) as caught:
            answers_of(sums_grammar(), [("nil", (), ()), ("one", (), (5,))])
        self.assertEqual(caught.exception.kind, "leaf")

    def test_no_tree_comes_first(self):
        with self.assertRaises(NoTree) as caught:
            answers_of(sums_grammar(), [("one", (), (5,)), ("one", (), ())])
        self.assertEqual(caught.exception.index, 1)


class GeneralRulesTest(TreeCase):

    def test_lists_and_tuples_give_equal_results(self):
        for called in ALL_FOUR:
            self.assertEqual(called(sums_grammar(), FIVE), called(sums_grammar(), tuple(FIVE)))

    def test_by_name(self):
        for called in ALL_FOUR:
            self.assertEqual(called(tree=FIVE, grammar=sums_grammar()), called(sums_grammar(), FIVE))

    def test_kinds_of_values(self):
        sums = sums_grammar()
        kinds = [type(called(sums, FIVE)) for called in ALL_FOUR]
        self.assertEqual(kinds, [tuple, str, int, list])

    def test_arguments_stay_as_they_were(self):
        sums, tree = sums_grammar(), list(FIVE)
        for called in ALL_FOUR:
            called(sums, tree)
        self.assertEqual(tree, copy.deepcopy(FIVE))
        self.assertEqual(sums, sums_grammar())

    def test_returned_lists_are_new(self):
        sums = sums_grammar()
        answers_of(sums, FIVE).append(0)
        self.assertEqual(answers_of(sums, FIVE), [14])
        self.assertIsNot(answers_of(sums, FIVE), answers_of(sums, FIVE))

    def test_results_do_not_depend_on_earlier_calls(self):
        sums, tree = sums_grammar(), list(FIVE)
        value(sums, tree)
        tree[1] = ("one", (), (6,))
        self.assertEqual(value(sums, tree), (2, 12))
        self.fails(4, sums, tree + [None])
        self.assertEqual(value(sums, tree), (2, 12))


if __name__ == "__main__":
    unittest.main()
