"""Stage 1: points 5, 6 and 7, and the general rules 2 and 3 for grammars."""

import copy
import unittest

from leastattr.errors import AttrError, NoGrammar
from leastattr.grammars import Grammar
from samples import (SUMS_ANSWERS, SUMS_KINDS, SUMS_RULES, changed, no_integers, nodes_grammar, odd_values,
                     sums_grammar)

PUT = SUMS_RULES[2]


def plain(many=1, answers=((0, 1),)):
    """The parts of a small grammar with so many rules."""
    names = ["r" + letter for letter in "abcdefghijklmnopqrst"[:many]]
    return [8, [("k", ("x",))], [(name, "k", (), 0, ((),)) for name in names], "k", list(answers)]


class GrammarCase(unittest.TestCase):

    def fails(self, part, index, *parts):
        with self.assertRaises(NoGrammar) as caught:
            Grammar(*parts)
        self.assertEqual((caught.exception.part, caught.exception.index), (part, index))

    def kinds_fail(self, index, kinds):
        self.fails("kinds", index, 8, kinds, SUMS_RULES, "row", SUMS_ANSWERS)

    def rules_fail(self, index, rules):
        self.fails("rules", index, 8, SUMS_KINDS, rules, "row", SUMS_ANSWERS)

    def rule_fails(self, path, new):
        self.rules_fail(2, SUMS_RULES[:2] + [changed(PUT, path, new)])

    def answers_fail(self, index, answers):
        self.fails("answers", index, 8, SUMS_KINDS, SUMS_RULES, "row", answers)


class AttributesTest(GrammarCase):

    def test_attributes_are_tuples(self):
        made = sums_grammar()
        self.assertEqual(made.width, 8)
        self.assertEqual(made.kinds, (("leaf", ("n",)), ("row", ("size", "total"))))
        self.assertEqual(made.rules, (
            ("one", "leaf", (), 1, (((1, (), 0),),)),
            ("nil", "row", (), 0, ((), ())),
            ("put", "row", ("row", "leaf"), 0, (
                ((1, (0, -1), -1), (1, (-1, -1), -1)),
                ((1, (1, -1), -1), (1, (-1, 0), -1)),
            )),
        ))
        self.assertEqual(made.top, "row")
        self.assertEqual(made.answers, ((0, 2, 1),))

    def test_lists_and_tuples_are_equal_arguments(self):
        one = Grammar(8, list(SUMS_KINDS), list(SUMS_RULES), "row", list(SUMS_ANSWERS))
        other = Grammar(8, tuple(SUMS_KINDS), tuple(SUMS_RULES), "row", tuple(SUMS_ANSWERS))
        self.assertTrue(one == other)
        self.assertFalse(one != other)

    def test_by_name(self):
        made = Grammar(answers=SUMS_ANSWERS, top="row", rules=SUMS_RULES, kinds=SUMS_KINDS, width=8)
        self.assertEqual(made, sums_grammar())

    def test_factors_are_reduced(self):
        rules = [("one", "k", (), 0, (((-1, (), -1), (256, (), -1), (10 ** 30, (), -1)),)),
                 ("up", "k", ("k",), 0, (((-257, (0,), -1), (511, (-1,), -1)),))]
        made = Grammar(8, [("k", ("x",))], rules, "k", [(-1, 256), (-10 ** 30, 2 ** 64 + 3)])
        self.assertEqual(made.rules[0][4], (((255, (), -1), (0, (), -1), (10 ** 30 % 256, (), -1)),))
        self.assertEqual(made.rules[1][4], (((255, (0,), -1), (255, (-1,), -1)),))
        self.assertEqual(made.answers, ((255, 0), (-10 ** 30 % 256, 3)))

    def test_widths_1_and_64(self):
        for width in (1, 64):
            made = Grammar(width, [("k", ("x",))], [("r", "k", (), 0, (((-1, (), -1),),))], "k", [(-1, 2 ** width)])
            self.assertEqual(made.width, width)
            self.assertEqual(made.rules[0][4], (((2 ** width - 1, (), -1),),))
            self.assertEqual(made.answers, ((2 ** width - 1, 0),))

    def test_the_most_of_everything(self):
        kinds = [(name, ("a", "b", "abcdefgh")) for name in ("a", "b", "c", "d", "zzzzzzzz")]
        terms = tuple([(1, (2, 0), 1)] * 12)
        rules = [("r" + letter, "a", ("zzzzzzzz", "a"), 2, (terms, (), terms)) for letter in "abcdefghijkl"]
        made = Grammar(64, kinds, rules, "zzzzzzzz", [(0, 0, 0, 0)] * 4)
        self.assertEqual([len(made.kinds), len(made.rules), len(made.answers)], [5, 12, 4])
        self.assertEqual(made.rules[11], rules[11])

    def test_names_may_stand_in_several_roles(self):
        made = Grammar(8, [("a", ("a", "b")), ("b", ("a",))], [("a", "a", (), 0, ((), ()))], "b", [(0, 1)])
        self.assertEqual(made.kinds, (("a", ("a", "b")), ("b", ("a",))))


class EqualityTest(GrammarCase):

    def test_reduced_parts_are_compared(self):
        one = Grammar(8, [("k", ("x",))], [("r", "k", (), 0, (((-1, (), -1),),))], "k", [(0, 257)])
        other = Grammar(8, [("k", ("x",))], [("r", "k", (), 0, (((255, (), -1),),))], "k", [(256, 1)])
        self.assertTrue(one == other)

    def test_each_part_counts(self):
        kinds = [("k", ("x",)), ("l", ("x",))]
        rules = [("r", "k", (), 0, ((),))]
        base = Grammar(8, kinds, rules, "k", [(0, 1)])
        self.assertTrue(base == Grammar(8, kinds, rules, "k", [(0, 1)]))
        others = [
            Grammar(9, kinds, rules, "k", [(0, 1)]),
            Grammar(8, [("k", ("x",)), ("l", ("y",))], rules, "k", [(0, 1)]),
            Grammar(8, kinds[:1], rules, "k", [(0, 1)]),
            Grammar(8, kinds, [("s", "k", (), 0, ((),))], "k", [(0, 1)]),
            Grammar(8, kinds, rules + [("s", "k", (), 0, ((),))], "k", [(0, 1)]),
            Grammar(8, kinds, rules, "l", [(0, 1)]),
            Grammar(8, kinds, rules, "k", [(0, 2)]),
            Grammar(8, kinds, rules, "k", [(0, 1), (0, 1)]),
        ]
        for other in others:
            self.assertFalse(base == other)
            self.assertTrue(base != other)

    def test_equal_to_nothing_of_another_kind(self):
        made = sums_grammar()
        alike = [(made.width, made.kinds, made.rules, made.top, made.answers), made.kinds]
        for thing in [item for item in odd_values() if not isinstance(item, Grammar)] + alike:
            self.assertFalse(made == thing)
            self.assertFalse(thing == made)
            self.assertTrue(made != thing)


class ChangesTest(GrammarCase):

    def test_arguments_stay_as_they_were(self):
        kinds, rules, answers = list(SUMS_KINDS), list(SUMS_RULES), [(0, -2, 257)]
        before = copy.deepcopy((kinds, rules, answers))
        Grammar(8, kinds, rules, "row", answers)
        self.assertEqual((kinds, rules, answers), before)

    def test_later_changes_have_no_effect(self):
        kinds, rules, answers = list(SUMS_KINDS), list(SUMS_RULES), list(SUMS_ANSWERS)
        made = Grammar(8, kinds, rules, "row", answers)
        kinds.append(("more", ("x",)))
        rules[0] = None
        del answers[:]
        self.assertEqual(made, sums_grammar())


class WrongWidthTest(GrammarCase):

    def test_wrong_widths(self):
        for thing in odd_values() + [65, "8", (8,)]:
            self.fails("width", -1, thing, SUMS_KINDS, SUMS_RULES, "row", SUMS_ANSWERS)


class WrongKindsTest(GrammarCase):

    def test_no_list_or_too_many(self):
        not_lists = [thing for thing in odd_values() if not isinstance(thing, (list, tuple)) or not thing]
        six = [(name, ("x",)) for name in "abcdef"]
        for thing in not_lists + [six, dict(SUMS_KINDS), set(SUMS_KINDS), "row"]:
            self.kinds_fail(-1, thing)

    def test_wrong_items(self):
        for thing in odd_values():
            self.kinds_fail(0, [thing])
            self.kinds_fail(1, (SUMS_KINDS[0], thing, None))

    def test_wrong_names(self):
        for thing in odd_values():
            if thing != "leaf":
                self.kinds_fail(2, SUMS_KINDS + [(thing, ("x",))])
                self.kinds_fail(2, SUMS_KINDS + [("more", ("x", thing))])

    def test_wrong_attributes(self):
        wrong = [["x"], (), ("a", "b", "c", "d"), ("x", "x"), ("a", "b", "a"), "x", {"x": 1}]
        for attributes in wrong + [thing for thing in odd_values() if thing != ("leaf",)]:
            self.kinds_fail(2, SUMS_KINDS + [("more", attributes)])

    def test_wrong_lengths_and_lists(self):
        for item in [("more",), ("more", ("x",), 0), ["more", ("x",)]]:
            self.kinds_fail(0, [item])

    def test_earlier_names(self):
        self.kinds_fail(2, SUMS_KINDS + [("leaf", ("x",))])
        self.kinds_fail(1, [("a", ("x",)), ("a", ("x",)), ("a", ("x",))])

    def test_the_first_wrong_item_is_told(self):
        self.kinds_fail(1, [("a", ("x",)), ("a", ("x",)), None])
        self.kinds_fail(1, [("a", ("x",)), None, ("a", ("x",))])


class WrongRulesTest(GrammarCase):

    def test_no_list_or_too_many(self):
        not_lists = [thing for thing in odd_values() if not isinstance(thing, (list, tuple)) or not thing]
        thirteen = plain(13)[2]
        for thing in not_lists + [{"one": SUMS_RULES[0]}]:
            self.rules_fail(-1, thing)
        self.fails("rules", -1, 8, [("k", ("x",))], thirteen, "k", [(0, 1)])

    def test_wrong_items(self):
        for thing in odd_values() + [list(PUT), PUT[:4], PUT + (0,)]:
            self.rules_fail(0, [thing])
            self.rules_fail(1, (SUMS_RULES[0], thing, None))

    def test_wrong_names_and_kinds(self):
        for thing in odd_values():
            if thing != "leaf":
                self.rule_fails((0,), thing)
                self.rule_fails((1,), thing)
                self.rule_fails((2, 1), thing)
        self.rule_fails((1,), "rows")
        self.rule_fails((2, 0), "rows")

    def test_wrong_children(self):
        for thing in odd_values() + [["row", "leaf"], ("row",), ("row", "leaf", "leaf"), "row"]:
            if thing != ():
                self.rule_fails((2,), thing)

    def test_three_children(self):
        terms = ((1, (-1, -1, -1), -1),)
        self.rules_fail(0, [("put", "row", ("row", "row", "row"), 0, (terms, terms))])

    def test_wrong_numbers_of_numbers(self):
        for thing in odd_values() + [3]:
            if thing != 0 or isinstance(thing, bool):
                self.rule_fails((3,), thing)

    def test_wrong_sums(self):
        for thing in odd_values() + [PUT[4][:1], PUT[4] + ((),), list(PUT[4])]:
            self.rule_fails((4,), thing)
        for thing in odd_values() + [[(1, (0, -1), -1)], ((1, (0, -1), -1),) * 13]:
            if thing != ():
                self.rule_fails((4, 0), thing)

    def test_wrong_terms(self):
        for thing in odd_values() + [[1, (0, -1), -1], (1, (0, -1)), (1, (0, -1), -1, 0)]:
            self.rule_fails((4, 1, 1), thing)

    def test_wrong_factors(self):
        for thing in no_integers():
            self.rule_fails((4, 1, 1, 0), thing)

    def test_wrong_picks(self):
        for thing in odd_values() + [[0, -1], (0,), (0, -1, -1)]:
            self.rule_fails((4, 1, 1, 1), thing)
        for thing in no_integers() + [2, -2, 10 ** 30]:
            self.rule_fails((4, 1, 1, 1, 0), thing)
        for thing in no_integers() + [1, -2, -10 ** 30]:
            self.rule_fails((4, 1, 1, 1, 1), thing)

    def test_wrong_indexes_of_numbers(self):
        for thing in no_integers() + [0, 1, -2, 10 ** 30]:
            self.rule_fails((4, 1, 1, 2), thing)
        for thing in no_integers() + [1, 2, -2]:
            self.rules_fail(0, [("one", "leaf", (), 1, (((1, (), thing),),))])
        for thing in no_integers() + [2, 3, -2]:
            self.rules_fail(0, [("one", "leaf", (), 2, (((1, (), thing),),))])

    def test_earlier_names(self):
        self.rules_fail(3, SUMS_RULES + [("one", "row", (), 0, ((), ()))])
        self.rules_fail(1, [SUMS_RULES[1]] * 3)

    def test_the_first_wrong_item_is_told(self):
        self.rules_fail(1, [SUMS_RULES[1], SUMS_RULES[1], None])
        self.rules_fail(1, [SUMS_RULES[1], None, SUMS_RULES[1]])


class WrongTopTest(GrammarCase):

    def test_wrong_tops(self):
        for thing in odd_values() + ["rows", "n", "one", ("row",), ["row"]]:
            self.fails("top", -1, 8, SUMS_KINDS, SUMS_RULES, thing, SUMS_ANSWERS)


class WrongAnswersTest(GrammarCase):

    def test_no_list_or_too_many(self):
        not_lists = [thing for thing in odd_values() if not isinstance(thing, (list, tuple)) or not thing]
        for thing in not_lists + [SUMS_ANSWERS * 5, {(0, 2, 1): 1}]:
            self.answers_fail(-1, thing)

    def test_wrong_items(self):
        for thing in odd_values() + [[0, 2, 1], (0, 2), (0, 2, 1, 0)]:
            self.answers_fail(0, [thing])
            self.answers_fail(1, (SUMS_ANSWERS[0], thing, None))

    def test_wrong_numbers(self):
        for thing in no_integers():
            for place in range(3):
                self.answers_fail(1, SUMS_ANSWERS + [changed((0, 2, 1), (place,), thing)])

    def test_forms_are_over_the_top_kind(self):
        self.fails("answers", 0, 8, SUMS_KINDS, SUMS_RULES, "leaf", [(0, 2, 1)])
        self.assertEqual(Grammar(8, SUMS_KINDS, SUMS_RULES, "leaf", [(0, 2)]).answers, ((0, 2),))

    def test_equal_answers_may_stand_twice(self):
        self.assertEqual(Grammar(*plain(1, [(0, 1)] * 4)).answers, ((0, 1),) * 4)


class OrderOfErrorsTest(GrammarCase):

    def test_the_part_that_is_stated_first_is_raised(self):
        self.fails("width", -1, 0, None, None, None, None)
        self.fails("kinds", -1, 8, None, None, None, None)
        self.fails("kinds", 1, 8, [SUMS_KINDS[0], None], None, None, None)
        self.fails("rules", -1, 8, SUMS_KINDS, None, None, None)
        self.fails("rules", 0, 8, SUMS_KINDS, [None], None, None)
        self.fails("top", -1, 8, SUMS_KINDS, SUMS_RULES, None, None)
        self.fails("answers", -1, 8, SUMS_KINDS, SUMS_RULES, "row", None)

    def test_the_error_is_one_of_the_package(self):
        with self.assertRaises(AttrError):
            Grammar(8, [("leaf", ("n", "n"))], [("one", "leaf", (), 0, ((),))], "leaf", [(0, 1)])

    def test_a_failed_call_changes_nothing(self):
        kinds, rules = list(SUMS_KINDS), list(SUMS_RULES) + [None]
        self.fails("rules", 3, 8, kinds, rules, "row", SUMS_ANSWERS)
        self.assertEqual([kinds, rules], [SUMS_KINDS, SUMS_RULES + [None]])
        self.assertEqual(nodes_grammar(), nodes_grammar())


if __name__ == "__main__":
    unittest.main()
