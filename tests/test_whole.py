"""The general rules 2 and 3 over all functions of the program."""

import copy
import inspect
import unittest

from leastattr import (apart, behaviours, chains, codes, compiling, documents, errors, exchange, grammars, hulls,
                       judging, modules, order, recipes, splits, squares, texts, trees, unknowns, wants)
from leastattr.codes import Code
from leastattr.grammars import Grammar
from samples import (FIVE, LOOP, lists_grammar, mixed_grammar, nodes_grammar, odd_values, once_grammar,
                     places_grammar, sums_code, sums_grammar, twice_code)

HOLE = [("", "t")]
LEAF = [("leaf", (), ())]
NIL = [("nil", (), ())]
SMALL = ([NIL, FIVE], [(LOOP, 0)])
X = [("nil", (), ()), ("one", (), ("x",)), ("put", (0, 1), ())]
CONS = [("nil", (), ()), ("cons", (0,), (5,))]
TWOS = {("cons", (0,)): 1}
GRAMMAR_TEXT = texts.grammar_text(lists_grammar())

CALLS = [
    (trees.value, [sums_grammar(), FIVE]),
    (trees.kind_of, [sums_grammar(), FIVE]),
    (trees.count_nodes, [sums_grammar(), FIVE]),
    (trees.answers_of, [sums_grammar(), FIVE]),
    (trees.kinds_of_context, [sums_grammar(), LOOP]),
    (trees.context_map, [sums_grammar(), LOOP]),
    (trees.fill, [sums_grammar(), LOOP, FIVE]),
    (modules.echelon, [4, 2, [(4, 3), [2, 2]]]),
    (modules.count, [4, 2, [(4, 3), [2, 2]]]),
    (modules.is_in, [4, 2, [(4, 3), [2, 2]], [8, 6]]),
    (modules.coefficients, [4, 2, [(4, 3), [2, 2]], [8, 6]]),
    (modules.kernel, [4, 2, [(4, 3)]]),
    (modules.meet, [4, 2, [(4, 3)], [[0, 2]]]),
    (modules.generators, [4, 2, [(4, 3), [2, 2]]]),
    (modules.picked, [4, 2, [(4, 3), [2, 2]]]),
    (modules.smith, [4, [(2, 8), [2, 0]]]),
    (hulls.hull, [nodes_grammar(), "t"]),
    (hulls.all_hulls, [sums_grammar()]),
    (hulls.relations, [nodes_grammar(), "t"]),
    (hulls.nonzero, [nodes_grammar(), "t", [0, 1, -1]]),
    (hulls.spanning_trees, [places_grammar(), "t"]),
    (hulls.is_spanning, [nodes_grammar(), "t", [LEAF]]),
    (wants.wanted, [places_grammar(), "t"]),
    (wants.all_wanted, [sums_grammar()]),
    (wants.is_wanted, [nodes_grammar(), "t", [7, 4, 0]]),
    (wants.spanning_contexts, [places_grammar(), "t"]),
    (wants.is_spanning_contexts, [nodes_grammar(), "t", [(HOLE, 0)]]),
    (wants.told_apart, [places_grammar(), "t", [1, 0, 0], [2, 0, 0]]),
    (behaviours.least, [places_grammar(), "t"]),
    (behaviours.least_numbers, [mixed_grammar()]),
    (behaviours.table, [sums_grammar(), "row", SMALL]),
    (behaviours.shown, [sums_grammar(), "row", SMALL]),
    (behaviours.paper, [places_grammar(), "t"]),
    (codes.registers, [sums_grammar(), sums_code(), FIVE]),
    (codes.code_answers, [sums_grammar(), sums_code(), FIVE]),
    (judging.judge, [once_grammar(), Code(8, [1], twice_code().rules, 0, [(1, 1)])]),
    (compiling.compiled, [mixed_grammar()]),
    (recipes.takeover, [sums_grammar(), sums_code(), "row"]),
    (recipes.check_recipe, [once_grammar(), twice_code(), "x", ((0, 1),)]),
    (recipes.given_back, [sums_grammar(), sums_code(), "row"]),
    (apart.apart, [lists_grammar(), lists_grammar((0, 0, 3))]),
    (exchange.exchangeable, [lists_grammar(), CONS, NIL]),
    (exchange.groups, [lists_grammar(), [CONS, NIL, CONS]]),
    (exchange.shortened, [sums_grammar(), FIVE]),
    (splits.state_of, [lists_grammar(), TWOS, CONS]),
    (splits.reached, [lists_grammar(), TWOS]),
    (splits.split_numbers, [lists_grammar(), TWOS]),
    (splits.split_grammar, [lists_grammar(), TWOS]),
    (squares.quadratics, [nodes_grammar(), "t"]),
    (squares.breaking, [nodes_grammar(), "t", [0, 0, 0, 1, 0, -1]]),
    (unknowns.unknowns, [sums_grammar(), X]),
    (unknowns.value_with, [sums_grammar(), X]),
    (unknowns.answers_with, [sums_grammar(), X]),
    (unknowns.mattering, [sums_grammar(), X]),
    (unknowns.put_in, [sums_grammar(), X, {"x": -3}]),
    (unknowns.parted, [sums_grammar(), X, NIL]),
    (documents.Document, [sums_grammar(), FIVE, sums_code()]),
    (chains.chain_value, [sums_grammar(), LOOP, FIVE, 10 ** 30]),
    (chains.chain_answers, [sums_grammar(), LOOP, FIVE, 10 ** 30]),
    (chains.chain_nodes, [sums_grammar(), LOOP, FIVE, 10 ** 30]),
    (chains.comes_back, [sums_grammar(), LOOP, FIVE]),
    (chains.loop_order, [sums_grammar(), LOOP]),
    (chains.parting, [sums_grammar(), LOOP, [("", "row")], FIVE]),
    (chains.first_time, [sums_grammar(), LOOP, FIVE, [0, 0, 1], 2, 87]),
    (texts.grammar_text, [lists_grammar()]),
    (texts.read_grammar, [GRAMMAR_TEXT]),
    (texts.tree_text, [FIVE]),
    (texts.read_tree, ["nil; cons 0 # 5"]),
    (order.swaps, [places_grammar(), "join"]),
    (order.brackets, [nodes_grammar(), "join"]),
    (order.idle, [sums_grammar(), LOOP]),
    (order.crossed, [places_grammar(), [("", "t"), ("leaf", (), (1,)), ("join", (0, 1), ())],
                     [("", "t"), ("leaf", (), (2,)), ("join", (1, 0), ())]]),
    (order.doubled, [nodes_grammar(), "join"]),
]
LISTS_ALONE = ("is_spanning", "is_spanning_contexts")


def parameters_of(called):
    """The parameters of a function or class."""
    return list(inspect.signature(called).parameters.values())


def told(called, values):
    """What a call tells, with all arguments by position that may be so."""
    own = list(zip(parameters_of(called), values))
    by_name = {each.name: worth for each, worth in own if each.kind == each.KEYWORD_ONLY}
    return plain(called(*[worth for each, worth in own if each.kind != each.KEYWORD_ONLY], **by_name))


def plain(found):
    """What is told, a document as what its methods tell."""
    if isinstance(found, documents.Document):
        return [found.node_count(), found.answers_now(), found.tree_at(()), found.context_at((0,)), found.state_at(())]
    return found


def turned(thing):
    """A list as a tuple, a tuple as a list."""
    return tuple(thing) if isinstance(thing, list) else list(thing) if isinstance(thing, tuple) else thing


def spoil(thing):
    """Empties all lists and dicts in what was returned."""
    if isinstance(thing, (list, tuple)):
        for item in thing:
            spoil(item)
    if isinstance(thing, (list, dict)):
        thing.clear()


class WholeTest(unittest.TestCase):

    def test_all_functions_of_the_interface_are_called(self):
        called = {each for each, _ in CALLS}
        self.assertEqual(len(called), len(CALLS))
        names = {each.__name__ for each in called}
        self.assertEqual(len(names), 73)

    def test_by_name_in_any_order(self):
        for called, values in CALLS:
            named = {each.name: worth for each, worth in zip(parameters_of(called), values)}
            self.assertEqual(len(named), len(parameters_of(called)))
            wish = told(called, values)
            self.assertEqual(plain(called(**named)), wish, called)
            self.assertEqual(plain(called(**dict(reversed(list(named.items()))))), wish, called)

    def test_no_argument_is_changed(self):
        for called, values in CALLS:
            before = copy.deepcopy(values)
            told(called, values)
            self.assertEqual(values, before, called)

    def test_equal_arguments_give_equal_results(self):
        for called, values in CALLS:
            self.assertEqual(told(called, copy.deepcopy(values)), told(called, values), called)

    def test_lists_and_tuples_are_alike(self):
        for called, values in CALLS:
            for at, worth in enumerate(values):
                if isinstance(worth, list) and called.__name__ not in LISTS_ALONE:
                    other = values[:at] + [turned(worth)] + values[at + 1:]
                    self.assertEqual(told(called, other), told(called, values), called)

    def test_results_may_be_changed_by_the_caller(self):
        for called, values in CALLS:
            before = copy.deepcopy(values)
            wish = copy.deepcopy(told(called, values))
            spoil(told(called, values))
            self.assertEqual(values, before, called)
            self.assertEqual(told(called, values), wish, called)

    def test_grammars_and_codes_of_lists_and_tuples_are_equal(self):
        sums, code = sums_grammar(), sums_code()
        for kinds in (sums.kinds, list(sums.kinds)):
            for rules in (sums.rules, list(sums.rules)):
                for answers in (sums.answers, list(sums.answers)):
                    self.assertEqual(Grammar(answers=answers, top="row", rules=rules, kinds=kinds, width=8), sums)
        for counts in (code.counts, list(code.counts)):
            for rules in (code.rules, list(code.rules)):
                self.assertEqual(Code(answers=code.answers, top=1, rules=rules, counts=counts, width=8), code)

    def test_nothing_of_another_kind_is_equal(self):
        own = [sums_grammar(), sums_code(), documents.Document(sums_grammar(), FIVE), errors.NoKind("t"),
               errors.NoTree(0), errors.NoAutomaton(), errors.NoText(-1)]
        for one in own:
            for other in own + odd_values():
                if type(other) is not type(one):
                    self.assertFalse(one == other)
                    self.assertFalse(other == one)
                    self.assertTrue(one != other)

    def test_all_errors_derive_from_one(self):
        found = [thing for thing in vars(errors).values() if isinstance(thing, type)]
        self.assertEqual(len(found), 24)
        for thing in found:
            self.assertTrue(issubclass(thing, ValueError))
            self.assertEqual(thing.__bases__, (ValueError if thing is errors.AttrError else errors.AttrError,))


if __name__ == "__main__":
    unittest.main()
