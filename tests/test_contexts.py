"""Stage 2, contexts: points 11, 12 and 13, and the general rules 2 and 3 for them."""

import copy
import unittest

from leastattr.errors import NoContext, NoTree, WrongKind
from leastattr.grammars import Grammar
from leastattr.trees import answers_of, context_map, count_nodes, fill, kind_of, kinds_of_context, value
from samples import (FIVE, LOOP, mixed_grammar, no_integers, nodes_grammar, odd_values, places_grammar,
                     random_context, random_tree, sums_grammar)

NIL = [("nil", (), ())]


def form_at(form, numbers, width):
    """The value of a form, straight from point 5."""
    return (form[0] + sum(factor * number for factor, number in zip(form[1:], numbers))) % 2 ** width


class ContextCase(unittest.TestCase):

    def fails(self, index, grammar, context):
        calls = [lambda: kinds_of_context(grammar, context), lambda: context_map(grammar, context),
                 lambda: fill(grammar, context, None)]
        for called in calls:
            with self.assertRaises(NoContext) as caught:
                called()
            self.assertEqual(caught.exception.index, index)

    def wrong_kind(self, kind, grammar, context, tree):
        with self.assertRaises(WrongKind) as caught:
            fill(grammar, context, tree)
        self.assertEqual(caught.exception.kind, kind)


class HolesTest(ContextCase):

    def test_the_hole_alone(self):
        for grammar in (sums_grammar(), mixed_grammar(), places_grammar()):
            for kind, attributes in grammar.kinds:
                size = len(attributes)
                unit = tuple(tuple([0] + [int(at == place) for at in range(size)]) for place in range(size))
                self.assertEqual(kinds_of_context(grammar, [("", kind)]), (kind, kind))
                self.assertEqual(context_map(grammar, [("", kind)]), unit)

    def test_the_hole_at_any_place(self):
        sums = sums_grammar()
        first = [("", "row"), ("one", (), (7,)), ("put", (0, 1), ())]
        second = [("one", (), (7,)), ("", "row"), ("put", (1, 0), ())]
        self.assertEqual(context_map(sums, first), ((1, 1, 0), (7, 0, 1)))
        self.assertEqual(context_map(sums, second), ((1, 1, 0), (7, 0, 1)))

    def test_a_hole_of_another_kind_than_the_root(self):
        sums = sums_grammar()
        context = [("nil", (), ()), ("", "leaf"), ("put", (0, 1), ())]
        self.assertEqual(kinds_of_context(sums, context), ("leaf", "row"))
        self.assertEqual(context_map(sums, context), ((1, 0), (0, 1)))

    def test_the_hole_stands_twice(self):
        join = ("join", (0, 0), ())
        self.fails(-1, nodes_grammar(), [("", "t"), join])
        self.fails(-1, nodes_grammar(), [("", "t"), ("leaf", (), ()), ("join", (0, 1), ()), ("join", (2, 2), ())])
        self.fails(-1, nodes_grammar(), [("", "t"), ("leaf", (), ()), ("join", (0, 1), ()), ("join", (0, 2), ())])

    def test_the_hole_stands_very_often(self):
        context = [("", "t")] + [("join", (place, place), ()) for place in range(1999)]
        self.fails(-1, nodes_grammar(), context)

    def test_the_hole_stands_nowhere(self):
        self.fails(-1, nodes_grammar(), [("leaf", (), ())])
        self.fails(-1, nodes_grammar(), [("", "t"), ("leaf", (), ())])
        self.fails(-1, nodes_grammar(), [("leaf", (), ()), ("", "t"), ("join", (0, 1), ()), ("join", (0, 0), ())])

    def test_the_hole_stands_often_only_in_what_the_root_does_not_use(self):
        context = [("", "t"), ("join", (0, 0), ()), ("join", (1, 1), ()), ("leaf", (), ()), ("join", (3, 0), ())]
        self.assertEqual(kinds_of_context(nodes_grammar(), context), ("t", "t"))
        self.assertEqual(context_map(nodes_grammar(), context), ((2, 1, 0), (1, 0, 1)))

    def test_a_hole_that_is_the_root_behind_other_steps(self):
        self.assertEqual(context_map(sums_grammar(), FIVE + [("", "leaf")]), ((0, 1),))


class MapsTest(ContextCase):

    def test_the_forms_are_those_of_the_filled_tree(self):
        for grammar in (mixed_grammar(), mixed_grammar(64), mixed_grammar(1), places_grammar(6), sums_grammar()):
            for seed in range(40):
                kind = grammar.kinds[seed % len(grammar.kinds)][0]
                context = random_context(grammar, kind, 6, seed)
                tree = random_tree(grammar, kind, 4, seed + 1000)
                forms = context_map(grammar, context)
                inside = value(grammar, tree)
                filled = fill(grammar, context, tree)
                outside = tuple(form_at(form, inside, grammar.width) for form in forms)
                self.assertEqual(outside, value(grammar, filled))
                self.assertEqual(kinds_of_context(grammar, context), (kind, kind_of(grammar, filled)))
                for number in [number for form in forms for number in form]:
                    self.assertTrue(0 <= number < 2 ** grammar.width)

    def test_products_with_the_other_child(self):
        places = places_grammar()
        # p grows by the leaves ahead times the sum: 2 leaves ahead of the hole, 3 behind it.
        ahead = [("leaf", (), (4,)), ("join", (0, 0), ()), ("", "t"), ("join", (1, 2), ())]
        behind = [("leaf", (), (5,)), ("", "t"), ("join", (1, 0), ()), ("join", (2, 0), ())]
        self.assertEqual(context_map(places, ahead), ((2, 1, 0, 0), (8, 0, 1, 0), (4, 0, 2, 1)))
        self.assertEqual(context_map(places, behind), ((2, 1, 0, 0), (10, 0, 1, 0), (5, 10, 0, 1)))

    def test_a_map_that_forgets_the_hole(self):
        grammar = Grammar(8, [("a", ("x",)), ("b", ("y", "z"))],
                          [("r", "b", ("a",), 1, (((4, (-1,), 0),), ()))], "b", [(0, 1, 0)])
        self.assertEqual(context_map(grammar, [("", "a"), ("r", (0,), (-1,))]), ((252, 0), (0, 0)))

    def test_width_64_and_large_numbers(self):
        grammar = Grammar(64, [("k", ("x",))], [("up", "k", ("k",), 1, (((-1, (0,), 0), (1, (-1,), 0)),))],
                          "k", [(0, 1)])
        context = [("", "k"), ("up", (0,), (10 ** 40,))]
        self.assertEqual(context_map(grammar, context), ((10 ** 40 % 2 ** 64, -10 ** 40 % 2 ** 64),))

    def test_2000_steps(self):
        context = [("", "row"), ("one", (), (3,))] + [("put", (0, 1), ())]
        context += [("put", (place, 1), ()) for place in range(2, 1999)]
        self.assertEqual(len(context), 2000)
        self.assertEqual(context_map(sums_grammar(64), context), ((1998, 1, 0), (3 * 1998, 0, 1)))
        self.assertEqual(len(fill(sums_grammar(), context, NIL)), 2000)
        self.fails(-1, sums_grammar(), context + [("put", (1999, 1), ())])


class FillTest(ContextCase):

    def test_the_example_of_point_13(self):
        filled = fill(sums_grammar(), LOOP, NIL)
        self.assertEqual(filled, [("nil", (), ()), ("one", (), (7,)), ("put", (0, 1), ())])

    def test_steps_of_the_tree_come_first(self):
        context = [("one", (), (-7,)), ("", "row"), ("one", (), (10 ** 30,)), ("put", (1, 2), ()), ("put", (3, 0), ())]
        filled = fill(sums_grammar(), context, FIVE)
        self.assertEqual(filled, FIVE + [
            ("one", (), (-7,)), ("one", (), (10 ** 30,)), ("put", (3, 5), ()), ("put", (6, 4), ())])
        self.assertEqual(answers_of(sums_grammar(), filled), [(2 * 4 + 10 - 7 + 10 ** 30) % 256])

    def test_the_hole_alone(self):
        self.assertEqual(fill(sums_grammar(), [("", "row")], FIVE), FIVE)

    def test_a_root_that_is_the_hole_leaves_just_the_tree(self):
        self.assertEqual(fill(sums_grammar(), FIVE + [("", "row")], NIL), NIL)

    def test_unused_steps_are_kept(self):
        tree = [("one", (), (1,)), ("nil", (), ())]
        context = [("one", (), (2,)), ("one", (), (2,)), ("", "row"), ("put", (2, 1), ())]
        filled = fill(sums_grammar(), context, tree)
        self.assertEqual(filled, tree + [("one", (), (2,)), ("one", (), (2,)), ("put", (1, 3), ())])

    def test_unused_steps_may_use_the_hole(self):
        context = [("", "t"), ("join", (0, 0), ()), ("leaf", (), ()), ("join", (2, 0), ())]
        tree = [("leaf", (), ()), ("join", (0, 0), ())]
        filled = fill(nodes_grammar(), context, tree)
        self.assertEqual(filled, tree + [("join", (1, 1), ()), ("leaf", (), ()), ("join", (3, 1), ())])
        self.assertEqual(count_nodes(nodes_grammar(), filled), 5)

    def test_more_than_2000_steps(self):
        tree = [("leaf", (), ())] + [("join", (place, place), ()) for place in range(1999)]
        context = [("leaf", (), ()), ("", "t")] + [("join", (place, 0), ()) for place in range(1, 1999)]
        filled = fill(nodes_grammar(), context, tree)
        self.assertEqual(len(filled), 3999)
        self.assertEqual(filled[:2000], tree)
        self.assertEqual(filled[2000:2003], [("leaf", (), ()), ("join", (1999, 2000), ()), ("join", (2001, 2000), ())])
        with self.assertRaises(NoTree) as caught:
            value(nodes_grammar(), filled)
        self.assertEqual(caught.exception.index, -1)


class WrongContextsTest(ContextCase):

    def test_no_list(self):
        for thing in odd_values():
            if not isinstance(thing, (list, tuple)) or not thing:
                self.fails(-1, sums_grammar(), thing)

    def test_wrong_items(self):
        wrong = [["", "row"], ("", "row", ()), ("",), ("", "n"), ("", "one"), ("row", ""), (" ", "row"), ["nil", (), ()]]
        for thing in odd_values() + wrong:
            self.fails(0, sums_grammar(), [thing])
            self.fails(1, sums_grammar(), (("", "row"), thing, None))

    def test_wrong_kinds_and_marks_of_a_hole(self):
        for thing in odd_values():
            if thing != "leaf":
                self.fails(0, sums_grammar(), [("", thing)])
            if thing != "":
                self.fails(0, sums_grammar(), [(thing, "row")])

    def test_a_second_hole(self):
        self.fails(1, sums_grammar(), [("", "row"), ("", "row")])
        self.fails(2, sums_grammar(), [("", "row"), ("one", (), (1,)), ("", "leaf"), ("put", (0, 1), ())])

    def test_wrong_steps(self):
        self.fails(2, sums_grammar(), [("", "row"), ("one", (), (1,)), ("put", (1, 0), ())])
        self.fails(2, sums_grammar(), [("", "row"), ("one", (), (1,)), ("put", (0, 2), ())])
        for thing in no_integers():
            self.fails(1, sums_grammar(), [("", "row"), ("one", (), (thing,)), ("put", (0, 1), ())])
            self.fails(2, sums_grammar(), [("", "row"), ("one", (), (1,)), ("put", (thing, 1), ())])

    def test_a_wrong_item_is_told_before_a_hole_that_stands_twice(self):
        self.fails(2, nodes_grammar(), [("", "t"), ("join", (0, 0), ()), None])
        self.fails(1, nodes_grammar(), [("leaf", (), ()), None])


class WrongFillTest(ContextCase):

    def test_no_tree(self):
        for thing in odd_values():
            if not isinstance(thing, (list, tuple)) or not thing:
                with self.assertRaises(NoTree) as caught:
                    fill(sums_grammar(), LOOP, thing)
                self.assertEqual(caught.exception.index, -1)
        with self.assertRaises(NoTree) as caught:
            fill(sums_grammar(), LOOP, NIL + [("", "row")])
        self.assertEqual(caught.exception.index, 1)

    def test_a_root_of_another_kind(self):
        self.wrong_kind("leaf", sums_grammar(), LOOP, [("one", (), (1,))])
        self.wrong_kind("row", sums_grammar(), [("nil", (), ()), ("", "leaf"), ("put", (0, 1), ())], FIVE)
        self.wrong_kind("row", sums_grammar(), [("", "leaf")], FIVE)

    def test_errors_come_in_their_order(self):
        self.fails(-1, sums_grammar(), None)
        with self.assertRaises(NoContext):
            fill(sums_grammar(), [("", "row"), None], [None])
        with self.assertRaises(NoTree):
            fill(sums_grammar(), LOOP, [("one", (), (1,)), None])


class GeneralRulesTest(ContextCase):

    def test_lists_and_tuples_give_equal_results(self):
        sums = sums_grammar()
        self.assertEqual(kinds_of_context(sums, LOOP), kinds_of_context(sums, tuple(LOOP)))
        self.assertEqual(context_map(sums, LOOP), context_map(sums, tuple(LOOP)))
        for context in (LOOP, tuple(LOOP)):
            for tree in (FIVE, tuple(FIVE)):
                self.assertEqual(fill(sums, context, tree), fill(sums, LOOP, FIVE))

    def test_by_name(self):
        sums = sums_grammar()
        self.assertEqual(kinds_of_context(context=LOOP, grammar=sums), ("row", "row"))
        self.assertEqual(context_map(context=LOOP, grammar=sums), ((1, 1, 0), (7, 0, 1)))
        self.assertEqual(fill(tree=NIL, context=LOOP, grammar=sums), fill(sums, LOOP, NIL))

    def test_kinds_of_values(self):
        sums = sums_grammar()
        self.assertIs(type(kinds_of_context(sums, LOOP)), tuple)
        forms = context_map(sums, LOOP)
        self.assertEqual([type(forms)] + [type(form) for form in forms], [tuple, tuple, tuple])
        filled = fill(sums, tuple(LOOP), tuple(NIL))
        self.assertEqual([type(filled)] + [type(step) for step in filled], [list, tuple, tuple, tuple])

    def test_arguments_stay_as_they_were(self):
        sums, context, tree = sums_grammar(), list(LOOP), list(FIVE)
        kinds_of_context(sums, context)
        context_map(sums, context)
        fill(sums, context, tree)
        self.assertEqual((context, tree), (copy.deepcopy(LOOP), copy.deepcopy(FIVE)))
        self.assertEqual(sums, sums_grammar())

    def test_returned_lists_are_new(self):
        sums, tree, context = sums_grammar(), list(NIL), [("", "row")]
        filled = fill(sums, context, tree)
        filled.append(None)
        self.assertEqual((tree, context), (NIL, [("", "row")]))
        self.assertEqual(fill(sums, context, tree), NIL)

    def test_later_changes_have_no_effect(self):
        sums, tree = sums_grammar(), list(NIL)
        filled = fill(sums, LOOP, tree)
        tree[0] = None
        self.assertEqual(filled[0], ("nil", (), ()))


if __name__ == "__main__":
    unittest.main()
