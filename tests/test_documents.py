"""Stage 13: points 68 to 71, judged by nested tuples whose attributes and registers are reckoned from the start."""

import copy
import random
import unittest

from leastattr.codes import Code, code_answers, registers
from leastattr.compiling import compiled
from leastattr.documents import Document
from leastattr.errors import LargeTree, NoNumbers, NoPath, NotOver, NotTop, NoTree, WrongKind
from leastattr.grammars import Grammar
from leastattr.trees import answers_of, fill, kind_of, kinds_of_context, value
from brute import copying_code, padded_code, random_code
from samples import (FIVE, codes_not_over_sums, doubled_leaves, lists_grammar, mixed_grammar, no_integers,
                     nodes_grammar, odd_values, places_grammar, random_tree, sums_code, sums_grammar, tree_index,
                     twice_code)

NIL = [("nil", (), ())]


def nested(tree, at=-1):
    """The tree that is meant, as nested tuples (rule, numbers, children)."""
    name, places, numbers = tree[at]
    return name, numbers, tuple(nested(tree, place) for place in places)


def steps_of(node, hole=None):
    """The steps of nested tuples with one step for each node, straight from point 69; hole is a path and a kind."""
    steps = []

    def add(inner, path):
        if hole is not None and path == hole[0]:
            steps.append(("", hole[1]))
        else:
            places = tuple(add(child, path + (index,)) for index, child in enumerate(inner[2]))
            steps.append((inner[0], places, inner[1]))
        return len(steps) - 1
    add(node, ())
    return steps


def node_at(node, path):
    """The nested tuples at a path."""
    for index in path:
        node = node[2][index]
    return node


def replaced(node, path, new):
    """Nested tuples with others at a path."""
    if not path:
        return new
    children = list(node[2])
    children[path[0]] = replaced(children[path[0]], path[1:], new)
    return node[0], node[1], tuple(children)


def count_of(node):
    """How many nodes nested tuples have."""
    return 1 + sum(count_of(child) for child in node[2])


def paths_of(node, path=()):
    """All paths of nested tuples."""
    found = [path]
    for index, child in enumerate(node[2]):
        found += paths_of(child, path + (index,))
    return found


class Model:
    """A document that reckons all anew each time."""

    def __init__(self, grammar, tree, code=None):
        self.grammar, self.code = grammar, code
        self.rules = {rule[0]: rule for rule in grammar.rules}
        self.states = [nested(tree)]
        self.now = 0

    @property
    def root(self):
        return self.states[self.now]

    def state_of(self, node):
        steps = steps_of(node)
        return value(self.grammar, steps) if self.code is None else registers(self.grammar, self.code, steps)

    def put(self, path, new, many):
        old, root = self.root, replaced(self.root, path, new)
        self.states = self.states[:self.now + 1] + [root]
        self.now += 1
        for length in range(len(path), -1, -1):
            if self.state_of(node_at(old, path[:length])) == self.state_of(node_at(root, path[:length])):
                # This one keeps its own, and is counted unless it is the one that was put.
                return many + len(path) - length
        return many + len(path)

    def check(self, test, page):
        root, grammar = self.root, self.grammar
        steps = steps_of(root)
        test.assertEqual(page.node_count(), count_of(root))
        answers = answers_of(grammar, steps) if self.code is None else code_answers(grammar, self.code, steps)
        test.assertEqual(page.answers_now(), answers)
        test.assertEqual(page.tree_at(()), steps)

    def check_node(self, test, page, path):
        node, grammar = node_at(self.root, path), self.grammar
        kind = self.rules[node[0]][1]
        test.assertEqual(page.kind_at(path), kind)
        test.assertEqual(page.state_at(path), self.state_of(node))
        test.assertIs(type(page.state_at(path)), tuple)
        test.assertEqual(page.tree_at(path), steps_of(node))
        context = page.context_at(path)
        test.assertEqual(context, steps_of(self.root, (path, kind)))
        test.assertEqual(kinds_of_context(grammar, context), (kind, grammar.top))
        whole = fill(grammar, context, page.tree_at(path))
        test.assertEqual(answers_of(grammar, whole), answers_of(grammar, page.tree_at(())))


def small_tree(grammar, kind, dice, many=6):
    """A tree of a kind that has few nodes."""
    while True:
        tree = random_tree(grammar, kind, dice.randrange(1, many), dice.random())
        if count_of(nested(tree)) <= 40:
            return tree


def some_codes(grammar, seed):
    """No code, right ones and wrong ones."""
    return [None, compiled(grammar), copying_code(grammar), padded_code(copying_code(grammar), 2, seed),
            random_code(grammar, seed)]


class EditingTest(unittest.TestCase):

    def edit(self, model, page, dice):
        """One random change, or a change that is taken back or done again."""
        path = dice.choice(paths_of(model.root))
        node = node_at(model.root, path)
        chosen = dice.randrange(10)
        if chosen < 4:
            numbers = [dice.choice([0, 1, 256, -1, dice.randrange(999)]) for _ in node[1]]
            many = page.put_numbers(path, tuple(numbers) if dice.randrange(2) else numbers)
            self.assertEqual(many, model.put(path, (node[0], tuple(numbers), node[2]), 1))
        elif chosen < 7:
            tree = small_tree(model.grammar, model.rules[node[0]][1], dice)
            if dice.randrange(4) == 0:
                tree = steps_of(node)
            if count_of(model.root) < 200:
                many = page.put_tree(path, tuple(tree) if dice.randrange(2) else tree)
                self.assertEqual(many, model.put(path, nested(tree), count_of(nested(tree))))
        elif chosen < 9:
            self.assertIs(page.undo(), model.now > 0)
            model.now = max(model.now - 1, 0)
        else:
            self.assertIs(page.redo(), model.now < len(model.states) - 1)
            model.now = min(model.now + 1, len(model.states) - 1)

    def test_random_edits(self):
        for seed in range(20):
            dice = random.Random(seed)
            grammar = (mixed_grammar(5), sums_grammar(), places_grammar(3), nodes_grammar(1))[seed % 4]
            for code in some_codes(grammar, seed):
                tree = small_tree(grammar, grammar.top, dice)
                model, page = Model(grammar, tree, code), Document(grammar, tree, code=code)
                model.check(self, page)
                for _ in range(25):
                    self.edit(model, page, dice)
                    model.check(self, page)
                    model.check_node(self, page, dice.choice(paths_of(model.root)))

    def test_all_is_as_before_behind_undo(self):
        dice = random.Random(3)
        mixed = mixed_grammar(6)
        for code in some_codes(mixed, 3):
            tree = small_tree(mixed, "b", dice)
            model, page = Model(mixed, tree, code), Document(mixed, tree, code=code)
            for _ in range(30):
                self.edit(model, page, dice)
            while page.redo():
                model.now += 1
            for now in list(range(model.now, -1, -1)) + list(range(len(model.states))):
                model.now = now
                model.check(self, page)
                for path in paths_of(model.root):
                    model.check_node(self, page, path)
                if model.now == 0 and page.undo() is False:
                    self.assertIs(page.undo(), False)
                elif now > 0:
                    page.undo()
                if now == 0:
                    break
            for now in range(1, len(model.states)):
                self.assertIs(page.redo(), True)
                model.now = now
                model.check(self, page)
            self.assertIs(page.redo(), False)

    def test_the_example(self):
        page = Document(sums_grammar(), FIVE)
        self.assertEqual(page.put_numbers((0, 1), [6]), 3)
        self.assertEqual(page.answers_now(), [15])
        self.assertEqual(page.put_tree((1,), [("one", (), (261,))]), 1)
        self.assertIs(page.undo(), True)


class LookingTest(unittest.TestCase):

    def test_steps_that_stood_more_than_once_are_nodes_of_their_own(self):
        sums = sums_grammar()
        page = Document(sums, FIVE)
        self.assertEqual(page.node_count(), 5)
        page.put_numbers((1,), (7,))
        self.assertEqual((page.state_at((1,)), page.state_at((0, 1)), page.answers_now()), ((7,), (5,), [16]))
        nodes = nodes_grammar()
        deep = Document(nodes, doubled_leaves(9))
        self.assertEqual(deep.node_count(), 511)
        deep.put_tree((0,) * 8, doubled_leaves(2))
        self.assertEqual(deep.node_count(), 513)
        self.assertEqual(deep.answers_now(), [1])

    def test_tree_at_and_context_at(self):
        page = Document(sums_grammar(), FIVE)
        self.assertEqual(page.tree_at((0,)), [("nil", (), ()), ("one", (), (5,)), ("put", (0, 1), ())])
        self.assertEqual(page.tree_at(()), [("nil", (), ()), ("one", (), (5,)), ("put", (0, 1), ()), ("one", (), (5,)),
                                            ("put", (2, 3), ())])
        self.assertEqual(page.context_at(()), [("", "row")])
        self.assertEqual(page.context_at((0, 1)), [("nil", (), ()), ("", "leaf"), ("put", (0, 1), ()),
                                                   ("one", (), (5,)), ("put", (2, 3), ())])
        self.assertEqual(page.context_at((1,)), [("nil", (), ()), ("one", (), (5,)), ("put", (0, 1), ()),
                                                 ("", "leaf"), ("put", (2, 3), ())])

    def test_numbers_are_as_they_were_handed_in(self):
        page = Document(sums_grammar(), [("nil", (), ()), ("one", (), (-10 ** 30,)), ("put", (0, 1), ())])
        self.assertEqual(page.tree_at((1,)), [("one", (), (-10 ** 30,))])
        page.put_numbers((1,), [300])
        self.assertEqual(page.tree_at((1,)), [("one", (), (300,))])
        self.assertEqual(page.state_at((1,)), (44,))
        page.put_tree((1,), (("one", (), (-1,)),))
        self.assertEqual(page.tree_at((1,)), [("one", (), (-1,))])

    def test_steps_that_the_root_does_not_use(self):
        page = Document(sums_grammar(), [("one", (), (8,)), ("nil", (), ()), ("put", (1, 0), ()), ("nil", (), ())])
        self.assertEqual((page.node_count(), page.tree_at(())), (1, NIL))

    def test_one_node(self):
        page = Document(sums_grammar(), NIL)
        self.assertEqual((page.node_count(), page.kind_at(()), page.state_at(()), page.answers_now()),
                         (1, "row", (0, 0), [0]))
        self.assertEqual((page.tree_at(()), page.context_at(())), (NIL, [("", "row")]))
        self.assertEqual(page.put_numbers((), ()), 1)
        self.assertEqual(page.put_tree((), FIVE), 5)
        self.assertEqual(page.answers_now(), [14])
        self.assertEqual([page.undo(), page.undo(), page.undo()], [True, True, False])
        self.assertEqual(page.tree_at(()), NIL)

    def test_registers_in_the_place_of_attributes(self):
        sums = sums_grammar()
        page = Document(sums, FIVE, code=sums_code())
        self.assertEqual((page.state_at(()), page.state_at((1,)), page.answers_now()), ((14,), (5,), [14]))
        wrong = Code(8, [1, 1], sums_code().rules, 1, [(3, 1)])
        self.assertEqual(Document(sums, FIVE, code=wrong).answers_now(), [17])
        none = Code(8, [0, 0], [(0, (), 1, ()), (1, (), 0, ()), (1, (1, 0), 0, ())], 1, [(4,)])
        page = Document(sums, FIVE, code=none)
        self.assertEqual((page.state_at(()), page.answers_now()), ((), [4]))
        self.assertEqual(page.put_tree((0,), FIVE), 5)


class CountingTest(unittest.TestCase):

    def test_up_to_the_first_one_that_keeps_its_own(self):
        # Each row has the double of what is inside; behind 8 of them nothing is left.
        grammar = Grammar(8, [("t", ("x",))], [("leaf", "t", (), 1, (((1, (), 0),),)),
                                              ("up", "t", ("t",), 0, (((2, (0,), -1),),))], "t", [(0, 1)])
        tree = [("leaf", (), (1,))] + [("up", (at,), ()) for at in range(20)]
        page = Document(grammar, tree)
        path = (0,) * 20
        for number, many in ((1, 1), (257, 1), (2, 9), (2, 1), (130, 2), (2 + 64, 3), (3, 9)):
            self.assertEqual(page.put_numbers(path, [number]), many)
        self.assertEqual(page.put_tree(path[:10], [("leaf", (), (8,))]), 1 + 5)
        self.assertEqual(page.put_tree(path[:5], tree[:3]), 3 + 5)
        self.assertEqual(page.answers_now(), [128])

    def test_a_code_of_few_registers_may_need_less(self):
        lists = lists_grammar()
        tree = [("nil", (), ())] + [("cons", (at,), (1,)) for at in range(50)]
        more = [("nil", (), ()), ("cons", (0,), (5,)), ("cons", (1,), (-5,))]
        page = Document(lists, tree)
        self.assertEqual(page.put_tree((0,) * 50, more), 3 + 50)
        least = Document(lists, tree, code=compiled(lists))
        self.assertEqual(least.put_tree((0,) * 50, more), 3)
        self.assertEqual(least.answers_now(), page.answers_now())
        self.assertEqual((least.node_count(), page.node_count()), (53, 53))
        self.assertEqual(least.put_numbers((0,) * 51, [6]), 52)

    def test_the_root_is_counted_once(self):
        page = Document(sums_grammar(), FIVE)
        self.assertEqual(page.put_tree((), FIVE), 5)
        self.assertEqual(page.put_tree((), NIL), 1)
        self.assertEqual(page.put_numbers((), ()), 1)


class UndoTest(unittest.TestCase):

    def test_a_new_change_behind_an_undo(self):
        page = Document(sums_grammar(), FIVE)
        self.assertEqual((page.undo(), page.redo()), (False, False))
        page.put_numbers((1,), [6])
        page.put_numbers((1,), [7])
        self.assertEqual((page.undo(), page.answers_now()), (True, [15]))
        page.put_numbers((0, 1), [0])
        self.assertEqual((page.redo(), page.answers_now()), (False, [10]))
        self.assertEqual((page.undo(), page.answers_now()), (True, [15]))
        self.assertEqual((page.undo(), page.answers_now()), (True, [14]))
        self.assertEqual((page.undo(), page.redo(), page.redo(), page.redo()), (False, True, True, False))
        self.assertEqual(page.answers_now(), [10])

    def test_a_change_that_leaves_all_as_it_was_is_one(self):
        page = Document(sums_grammar(), FIVE)
        page.put_numbers((1,), [9])
        page.undo()
        page.put_numbers((1,), [5])
        self.assertEqual((page.redo(), page.undo(), page.undo(), page.redo()), (False, True, False, True))
        page.undo()
        self.assertEqual(page.put_tree((), page.tree_at(())), 5)
        self.assertEqual((page.redo(), page.undo(), page.undo()), (False, True, False))
        self.assertEqual(page.answers_now(), [14])

    def test_a_call_that_raises_is_no_change(self):
        page = Document(sums_grammar(), FIVE)
        page.put_numbers((1,), [9])
        page.undo()
        for called in (lambda: page.put_numbers((1,), [None]), lambda: page.put_numbers((5,), [1]),
                       lambda: page.put_tree((1,), NIL), lambda: page.put_tree((), [None]),
                       lambda: page.put_tree((0,), long_row(999))):
            with self.assertRaises(ValueError):
                called()
        self.assertEqual((page.answers_now(), page.node_count()), ([14], 5))
        self.assertEqual((page.redo(), page.answers_now()), (True, [18]))

    def test_many_changes(self):
        lists = lists_grammar()
        tree = [("nil", (), ())] + [("cons", (at,), (0,)) for at in range(30)]
        page = Document(lists, tree, code=compiled(lists))
        for number in range(1000):
            page.put_numbers((0,) * (number % 30), [number])
        self.assertEqual(page.answers_now(), [sum(range(970, 1000)) % 256])
        for _ in range(1000):
            self.assertTrue(page.undo())
        self.assertEqual((page.undo(), page.answers_now(), page.tree_at(())), (False, [0], tree))
        for _ in range(1000):
            self.assertTrue(page.redo())
        self.assertEqual((page.redo(), page.answers_now()), (False, [sum(range(970, 1000)) % 256]))


def long_row(many):
    """A row of `sums` with so many nodes, an odd number."""
    return NIL + [("one", (), (1,))] + [("put", (at and at + 1, 1), ()) for at in range((many - 1) // 2)]


class LargeTest(unittest.TestCase):

    def test_1000_nodes(self):
        lists = lists_grammar()
        tree = [("nil", (), ())] + [("cons", (at,), (1,)) for at in range(999)]
        for code in (None, compiled(lists)):
            page = Document(lists, tree, code=code)
            self.assertEqual((page.node_count(), page.answers_now()), (1000, [999 % 256]))
            self.assertEqual(page.tree_at(()), tree)
            path = (0,) * 999
            self.assertEqual(page.kind_at(path), "list")
            self.assertEqual(page.tree_at(path), NIL)
            context = page.context_at(path)
            self.assertEqual(fill(lists, context, NIL), tree)
            self.assertEqual(page.put_numbers(path[:998], [2]), 999)
            self.assertEqual(page.answers_now(), [1000 % 256])
            with self.assertRaises(LargeTree) as caught:
                page.put_tree(path, tree[:2])
            self.assertEqual(caught.exception.nodes, 1001)
            with self.assertRaises(NoPath) as caught:
                page.kind_at(path + (0,))
            self.assertEqual(caught.exception.path, path + (0,))
            self.assertTrue(page.undo())
            self.assertEqual(page.answers_now(), [999 % 256])

    def test_more_than_1000_nodes(self):
        sums, nodes = sums_grammar(), nodes_grammar()
        self.assertEqual(Document(sums, long_row(999)).node_count(), 999)
        for many in (1001, 1501):
            with self.assertRaises(LargeTree) as caught:
                Document(sums, long_row(many))
            self.assertEqual(caught.exception.nodes, many)
        with self.assertRaises(LargeTree) as caught:
            Document(nodes, doubled_leaves(1901))
        self.assertEqual(caught.exception.nodes, 2 ** 1901 - 1)
        page = Document(nodes, doubled_leaves(9))
        for path, nodes_more in (((), 2 ** 1901 - 1), ((0,), 2 ** 1901 - 1 + 511 - 255), ((1, 0), 2 ** 1901 + 383)):
            with self.assertRaises(LargeTree) as caught:
                page.put_tree(path, doubled_leaves(1901))
            self.assertEqual(caught.exception.nodes, nodes_more)
        self.assertEqual(page.node_count(), 511)

    def test_just_1000_nodes_behind_a_change(self):
        lists = lists_grammar()
        tree = [("nil", (), ())] + [("cons", (at,), (1,)) for at in range(999)]
        page = Document(lists, tree)
        for many in (1, 2, 500):
            self.assertEqual(page.put_tree((0,) * (1000 - many), tree[:many]), many)
            self.assertEqual(page.node_count(), 1000)
        with self.assertRaises(LargeTree) as caught:
            page.put_tree((0,) * 500, tree[:501])
        self.assertEqual(caught.exception.nodes, 1001)
        page.put_tree((0,), NIL)
        self.assertEqual(page.node_count(), 2)
        page.put_tree((0,), tree[:999])
        self.assertEqual(page.node_count(), 1000)
        page.undo()
        self.assertEqual(page.node_count(), 2)
        page.undo()
        self.assertEqual(page.node_count(), 1000)

    def test_a_code_of_16_registers_and_many_terms(self):
        lists = lists_grammar()
        terms = tuple((at + 1, (at % 17 - 1,), at % 2 - 1) for at in range(400))
        code = Code(8, [16], [(0, (), 0, ((),) * 16), (0, (0,), 1, (terms,) * 16)], 0, [(1,) * 17])
        tree = [("nil", (), ())] + [("cons", (at,), (at,)) for at in range(60)]
        page = Document(lists, tree, code=code)
        self.assertEqual(page.answers_now(), code_answers(lists, code, tree))
        page.put_numbers((0,) * 55, [9])
        self.assertEqual(page.answers_now(), code_answers(lists, code, page.tree_at(())))


class WrongArgumentsTest(unittest.TestCase):

    def test_errors_of_the_constructor_in_their_order(self):
        sums = sums_grammar()
        for thing in odd_values():
            for tree, index in ((thing, tree_index(thing)), (FIVE + [thing], 4)):
                with self.assertRaises(NoTree) as caught:
                    Document(sums, tree, code=thing)
                self.assertEqual(caught.exception.index, index)
        nodes = Grammar(8, [("t", ("x",)), ("u", ("y",))], [
            ("leaf", "t", (), 0, ((),)), ("join", "t", ("t", "t"), 0, ((),))], "u", [(0, 1)])
        with self.assertRaises(LargeTree) as caught:
            Document(nodes, doubled_leaves(10), code=5)
        self.assertEqual(caught.exception.nodes, 1023)
        for grammar, tree, kind in ((nodes, doubled_leaves(3), "t"), (sums, NIL + [("one", (), (1,))], "leaf")):
            with self.assertRaises(NotTop) as caught:
                Document(grammar, tree, code=5)
            self.assertEqual(caught.exception.kind, kind)

    def test_not_over(self):
        sums = sums_grammar()
        for rule, code in codes_not_over_sums():
            with self.assertRaises(NotOver) as caught:
                Document(sums, FIVE, code=code)
            self.assertEqual(caught.exception.rule, rule)
        for thing in odd_values():
            if thing is not None:
                with self.assertRaises(NotOver) as caught:
                    Document(sums, FIVE, code=thing)
                self.assertEqual(caught.exception.rule, -1)
        with self.assertRaises(NotOver):
            Document(sums, FIVE, code=twice_code())

    def test_no_path(self):
        page = Document(sums_grammar(), FIVE)
        wrong = [thing for thing in odd_values() if thing != ()]
        wrong += [[], [0], (2,), (-1,), (0, 2), (1, 0), (0, 0, 0), (0, -1), (10 ** 30,), "0", (0, 1, 0)]
        wrong += [(thing,) for thing in no_integers()] + [(0, thing) for thing in no_integers()]
        for path in wrong:
            for called in (page.kind_at, page.state_at, page.tree_at, page.context_at,
                           lambda wrong: page.put_tree(wrong, None), lambda wrong: page.put_numbers(wrong, None)):
                with self.assertRaises(NoPath) as caught:
                    called(path)
                self.assertIs(caught.exception.path, path)

    def test_put_tree(self):
        page = Document(sums_grammar(), FIVE)
        for thing in odd_values():
            for tree, index in ((thing, tree_index(thing)), (FIVE + [thing], 4)):
                with self.assertRaises(NoTree) as caught:
                    page.put_tree((1,), tree)
                self.assertEqual(caught.exception.index, index)
        for path, tree, kind in (((1,), FIVE, "row"), ((), [("one", (), (1,))], "leaf"), ((1,), long_row(1999), "row")):
            with self.assertRaises(WrongKind) as caught:
                page.put_tree(path, tree)
            self.assertEqual(caught.exception.kind, kind)
        self.assertEqual(page.tree_at(()), steps_of(nested(FIVE)))

    def numbers_fail(self, page, path, numbers, index):
        with self.assertRaises(NoNumbers) as caught:
            page.put_numbers(path, numbers)
        self.assertEqual(caught.exception.index, index)

    def test_put_numbers(self):
        page = Document(sums_grammar(), FIVE)
        for thing in odd_values():
            if not (isinstance(thing, (list, tuple)) and len(thing) == 1):
                self.numbers_fail(page, (1,), thing, -1)
            if not (isinstance(thing, (list, tuple)) and len(thing) == 0):
                self.numbers_fail(page, (0, 0), thing, -1)
        for thing in no_integers():
            self.numbers_fail(page, (1,), [thing], 0)
            self.numbers_fail(page, (1,), (thing,), 0)
        for numbers in ([], (), [1, 2], (1, None), {0: 1}, {0}, "1"):
            self.numbers_fail(page, (1,), numbers, -1)
        mixed = Document(mixed_grammar(), [("la", (), (1, 2)), ("ub", (0,), (3, 4))])
        self.numbers_fail(mixed, (0,), [1, None], 1)
        self.numbers_fail(mixed, (0,), [True, None], 0)
        self.assertEqual(mixed.put_numbers((0,), (-5, 10 ** 30)), 2)
        self.assertEqual(mixed.tree_at((0,)), [("la", (), (-5, 10 ** 30))])


class GeneralRulesTest(unittest.TestCase):

    def test_by_name(self):
        page = Document(code=None, tree=FIVE, grammar=sums_grammar())
        self.assertEqual(page.kind_at(path=(0,)), "row")
        self.assertEqual(page.state_at(path=(1,)), (5,))
        self.assertEqual(len(page.tree_at(path=(0,))), 3)
        self.assertEqual(len(page.context_at(path=(0,))), 3)
        self.assertEqual(page.put_tree(tree=NIL, path=(0,)), 2)
        self.assertEqual(page.put_numbers(numbers=[3], path=(1,)), 2)
        with self.assertRaises(TypeError):
            Document(sums_grammar(), FIVE, sums_code())

    def test_later_changes_of_arguments_and_results(self):
        sums, tree, code = sums_grammar(), copy.deepcopy(FIVE), sums_code()
        page = Document(sums, tree, code=code)
        tree.clear()
        numbers, more = [6], copy.deepcopy(FIVE)
        page.put_numbers((1,), numbers)
        page.put_tree((0,), more)
        wish = page.tree_at(())
        numbers.append(None)
        more.clear()
        page.tree_at(()).clear()
        page.context_at((0,)).clear()
        page.answers_now().clear()
        sums.width, sums.rules, sums.answers, code.answers, code.rules = 1, (), (), (), ()
        self.assertEqual(page.tree_at(()), wish)
        self.assertEqual(page.answers_now(), answers_of(sums_grammar(), wish))
        page.put_tree((), FIVE)
        self.assertEqual(page.answers_now(), [14])
        page.undo()
        self.assertEqual(page.tree_at(()), wish)

    def test_arguments_stay_as_they_were(self):
        sums, tree, code, numbers = sums_grammar(), copy.deepcopy(FIVE), sums_code(), [7]
        page = Document(sums, tree, code=code)
        page.put_numbers((1,), numbers)
        page.put_tree((), tree)
        page.undo()
        self.assertEqual((sums, tree, code, numbers), (sums_grammar(), FIVE, sums_code(), [7]))

    def test_documents_are_apart_and_equal_to_nothing_else(self):
        one, other = Document(sums_grammar(), FIVE), Document(sums_grammar(), tuple(FIVE))
        one.put_numbers((1,), [9])
        self.assertEqual(other.answers_now(), [14])
        for thing in odd_values():
            self.assertFalse(one == thing)
        self.assertTrue(one == one)
        self.assertEqual(kind_of(sums_grammar(), one.tree_at((0,))), "row")


if __name__ == "__main__":
    unittest.main()
