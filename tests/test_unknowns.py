"""Stage 12: points 64 to 66, judged by putting all 0s and 1s, and any numbers, in the place of the unknown ones."""

import copy
import itertools
import random
import unittest

from leastattr.errors import ManyUnknowns, NoNumbers, NoTree, NotOnce, NotTop
from leastattr.grammars import Grammar
from leastattr.trees import answers_of, value
from leastattr.unknowns import answers_with, mattering, parted, put_in, unknowns, value_with
from samples import (FIVE, bare_grammar, lists_grammar, mixed_grammar, no_integers, odd_values, places_grammar,
                     sums_grammar, tree_index, wide_grammar)

NAMES = ["x", "b", "zz", "a", "abcdefgh", "k", "q"]
NIL = ("nil", (), ())
X = [NIL, ("one", (), ("x",)), ("put", (0, 1), ())]


def times_of(tree):
    """How many times each step stands in the tree that is meant."""
    times = [0] * (len(tree) - 1) + [1]
    for at in reversed(range(len(tree))):
        for place in tree[at][1]:
            times[place] += times[at]
    return times


def with_names(tree, many, dice):
    """A tree with at most so many names in the place of numbers of steps that stand just once."""
    times = times_of(tree)
    free = [(at, place) for at, step in enumerate(tree) for place in range(len(step[2])) if times[at] == 1]
    chosen = dice.sample(free, min(many, len(free)))
    named = dict(zip(chosen, dice.sample(NAMES, len(chosen))))
    return [(rule, places, tuple(named.get((at, place), number) for place, number in enumerate(numbers)))
            for at, (rule, places, numbers) in enumerate(tree)]


def straight_tree(grammar, kind, many, dice):
    """A tree of a kind in which most steps stand once: each child is taken from what no step has yet, if it can be."""
    steps, kinds, free = [], [], []
    while len(steps) < many or kinds[-1] != kind:
        rules = [rule for rule in grammar.rules if all(child in kinds for child in rule[2])]
        rule = dice.choice(rules)
        places = []
        for child in rule[2]:
            own = [at for at in free if kinds[at] == child and at not in places]
            places.append(own[-1] if own else dice.choice([at for at, have in enumerate(kinds) if have == child]))
        free = [at for at in free if at not in places] + [len(steps)]
        steps.append((rule[0], tuple(places), tuple(dice.randrange(-9, 300) for _ in range(rule[3]))))
        kinds.append(rule[1])
    return steps


def trees_with_names(many, seeds, kind=None):
    """Grammars and trees of the top kind, or another one, with at most so many names."""
    for seed in seeds:
        dice = random.Random(seed)
        width = dice.choice((1, 2, 5, 64))
        grammar = (mixed_grammar(width), sums_grammar(width), places_grammar(width))[seed % 3]
        tree = straight_tree(grammar, kind or grammar.top, dice.randrange(1, 14), dice)
        yield grammar, with_names(tree, many, dice), dice


def filled(tree, numbers):
    """A tree with numbers for all names."""
    return [(rule, places, tuple(numbers[own] if isinstance(own, str) else own for own in given))
            for rule, places, given in tree]


def names_of(tree):
    """The names in a tree, in order."""
    return [own for _, _, given in tree for own in given if isinstance(own, str)]


def told_value(told, numbers, width):
    """The value of a sum of products that was told, at some numbers."""
    total = 0
    for coefficient, names in told:
        for name in names:
            coefficient *= numbers[name]
        total += coefficient
    return total % 2 ** width


def all_bits(names):
    """All dicts from names to 0 or 1, those with few ones first, then by the ascending tuple of the names with 1."""
    names = sorted(names)
    for many in range(len(names) + 1):
        for ones in itertools.combinations(names, many):
            yield {name: int(name in ones) for name in names}


class UnknownsTest(unittest.TestCase):

    def test_the_order_is_that_of_steps_and_numbers(self):
        told = set()
        for grammar, tree, _ in trees_with_names(6, range(90)):
            self.assertEqual(unknowns(grammar, tree), names_of(tree))
            self.assertEqual(unknowns(grammar, tuple(tree)), names_of(tree))
            told.add(len(names_of(tree)))
        self.assertTrue(told >= {0, 1, 2, 3, 4, 5, 6}, told)

    def test_numbers_below_0_beside_names(self):
        tree = [("la", (), (-3, "y")), ("ub", (0,), ("x", -10 ** 30))]
        self.assertEqual(unknowns(mixed_grammar(), tree), ["y", "x"])

    def test_six_and_seven(self):
        mixed = mixed_grammar()
        tree = [("la", (), ("a", "b")), ("ub", (0,), ("c", "d")), ("ua", (1,), ("e",)), ("ub", (2,), (7, "f"))]
        self.assertEqual(unknowns(mixed, tree), list("abcdef"))
        more = tree[:3] + [("ub", (2,), ("g", "f"))]
        for called in (unknowns, value_with, answers_with, mattering, lambda *both: put_in(*both, None),
                       lambda *both: parted(*both, more), lambda *both: parted(both[0], tree, both[1])):
            with self.assertRaises(ManyUnknowns) as caught:
                called(mixed, more)
            self.assertEqual(caught.exception.number, 7)

    def test_many_unknowns_come_ahead_of_not_once(self):
        sums = sums_grammar()
        tree = [("one", (), (name,)) for name in "abcdefghijkl"] + [("one", (), ("a",))] + FIVE[:1]
        with self.assertRaises(ManyUnknowns) as caught:
            unknowns(sums, tree)
        self.assertEqual(caught.exception.number, 12)
        tree = [("one", (), ("a",))] * 9 + FIVE[:1]
        with self.assertRaises(NotOnce) as caught:
            unknowns(sums, tree)
        self.assertEqual(caught.exception.name, "a")

    def not_once(self, name, grammar, tree):
        for called in (unknowns, value_with, answers_with, mattering, lambda *both: put_in(*both, None),
                       lambda *both: parted(*both, None), lambda *both: parted(both[0], FIVE, both[1])):
            with self.assertRaises(NotOnce) as caught:
                called(grammar, tree)
            self.assertEqual(caught.exception.name, name)

    def test_not_once(self):
        sums = sums_grammar()
        one = ("one", (), ("x",))
        self.not_once("x", sums, [NIL, one, ("put", (0, 1), ()), ("put", (2, 1), ())])
        self.not_once("x", sums, [one, NIL])
        self.not_once("x", sums, [NIL, one, one, ("put", (0, 1), ()), ("put", (3, 2), ())])
        self.not_once("x", sums, [NIL, one, one, ("put", (0, 1), ())])
        self.not_once("y", sums, [NIL, one, ("one", (), ("y",)), ("put", (0, 1), ())])
        self.not_once("x", sums, [one, ("one", (), ("y",)), NIL])
        self.not_once("y", sums, [("one", (), ("y",)), one, one, NIL])
        tree = [NIL, ("one", (), ("b",)), ("one", (), ("a",)), ("put", (0, 2), ()), ("put", (3, 2), ())]
        self.not_once("b", sums, tree)
        tree = [NIL, ("one", (), ("b",)), ("one", (), ("a",)), ("put", (0, 1), ()), ("put", (3, 2), ()),
                ("put", (4, 2), ())]
        self.not_once("a", sums, tree)

    def test_one_name_at_two_places_of_a_step(self):
        for called in (unknowns, value_with):
            with self.assertRaises(NotOnce) as caught:
                called(mixed_grammar(), [("la", (), ("x", "x"))])
            self.assertEqual(caught.exception.name, "x")

    def test_a_step_may_be_used_more_often_by_steps_that_the_root_does_not_use(self):
        lists = lists_grammar()
        tree = [NIL, ("cons", (0,), ("x",)), ("cons", (1,), (4,)), ("cons", (1,), (5,))]
        self.assertEqual(value_with(lists, tree), [[(2, ())], [(5, ()), (1, ("x",))]])
        places = places_grammar()
        tree = [("leaf", (), ("x",)), ("leaf", (), ("y",)), ("join", (0, 0), ()), ("join", (0, 1), ())]
        self.assertEqual(value_with(places, tree), [[(2, ())], [(1, ("x",)), (1, ("y",))], [(1, ("y",))]])

    def test_a_child_that_stands_twice_above_it(self):
        places = places_grammar()
        tree = [("leaf", (), ("x",)), ("join", (0, 0), ())]
        with self.assertRaises(NotOnce):
            unknowns(places, tree)
        with self.assertRaises(NotOnce):
            unknowns(places, [("leaf", (), ("x",)), ("leaf", (), (1,)), ("join", (0, 1), ()), ("join", (2, 2), ())])

    def test_no_tree(self):
        sums = sums_grammar()
        for thing in odd_values():
            for tree, index in ((thing, tree_index(thing)), (X + [thing], 3), ([thing] + X, 0)):
                for called in (unknowns, value_with, answers_with, mattering, lambda *both: put_in(*both, None),
                               lambda *both: parted(*both, None), lambda *both: parted(both[0], X, both[1])):
                    with self.assertRaises(NoTree) as caught:
                        called(sums, tree)
                    self.assertEqual(caught.exception.index, index)

    def test_what_is_no_number_and_no_name(self):
        sums = sums_grammar()
        for thing in no_integers() + ["X", "x1", "abcdefghi", "x ", "", "x\n"]:
            if thing not in ("leaf",):
                with self.assertRaises(NoTree) as caught:
                    unknowns(sums, [NIL, ("one", (), (thing,)), ("put", (0, 1), ())])
                self.assertEqual(caught.exception.index, 1)
        for step in (("one", (), ()), ("one", (), ("x", "y")), ("one", (), "x"), ("one", (), ["x"]), ("one", "x", (1,)),
                     ("x", (), (1,)), ("nil", (), ("x",)), ["one", (), ("x",)], ("one", (), ("x",), ()),
                     ("one", (), ("x",), 5), ("one", ()), ("one", ("x",), (1,))):
            with self.assertRaises(NoTree) as caught:
                unknowns(sums, [NIL, step, ("put", (0, 1), ())])
            self.assertEqual(caught.exception.index, 1)

    def test_no_tree_comes_ahead_of_the_others(self):
        tree = [("one", (), (name,)) for name in "abcdefghijkl"] + [None]
        with self.assertRaises(NoTree) as caught:
            unknowns(sums_grammar(), tree)
        self.assertEqual(caught.exception.index, 12)


class SumsTest(unittest.TestCase):

    def check_sums(self, width, told):
        for row in told:
            self.assertIs(type(row), list)
            keys = [(len(names), names) for _, names in row]
            self.assertEqual(keys, sorted(set(keys)))
            for item in row:
                self.assertTrue(type(item) is tuple and 1 <= item[0] < 2 ** width)
                self.assertTrue(type(item[1]) is tuple and item[1] == tuple(sorted(set(item[1]))))

    def test_against_all_bits_and_random_numbers(self):
        told_names = set()
        for grammar, tree, dice in trees_with_names(6, range(120)):
            width, names = grammar.width, names_of(tree)
            values, answers = value_with(grammar, tree), answers_with(grammar, tree)
            self.check_sums(width, values)
            self.check_sums(width, answers)
            random_ones = [{name: dice.randrange(-9, 2 ** 64) for name in names} for _ in range(5)]
            for numbers in list(all_bits(names)) + random_ones:
                whole = filled(tree, numbers)
                self.assertEqual(tuple(told_value(row, numbers, width) for row in values), value(grammar, whole))
                self.assertEqual([told_value(row, numbers, width) for row in answers], answers_of(grammar, whole))
            told_names.update(len(item[1]) for row in answers for item in row)
        self.assertTrue(told_names >= {0, 1, 2, 3}, told_names)

    def test_the_example(self):
        self.assertEqual(answers_with(sums_grammar(), X), [[(2, ()), (1, ("x",))]])

    def test_values_of_any_kind(self):
        for grammar, tree, dice in trees_with_names(4, range(0, 60, 3), "a"):
            self.check_sums(grammar.width, value_with(grammar, tree))
        self.assertEqual(value_with(sums_grammar(), [("one", (), ("x",))]), [[(1, ("x",))]])

    def test_no_unknown_number(self):
        self.assertEqual(value_with(sums_grammar(), FIVE), [[(2, ())], [(10, ())]])
        self.assertEqual(value_with(sums_grammar(), [NIL]), [[], []])
        self.assertEqual(answers_with(sums_grammar(), [NIL]), [[]])

    def test_coefficients_that_come_to_nothing(self):
        lists = lists_grammar((0, 0, 128))
        tree = [NIL, ("cons", (0,), ("x",)), ("cons", (1,), (2,))]
        self.assertEqual(answers_with(lists, tree), [[(128, ("x",))]])
        narrow = Grammar(7, lists.kinds, lists.rules, "list", lists.answers)
        self.assertEqual(answers_with(narrow, tree), [[]])
        self.assertEqual(mattering(narrow, tree), [])

    def test_products_of_all_six(self):
        grammar = Grammar(64, [("t", ("x",))], [("leaf", "t", (), 1, (((1, (), 0), (1, (), -1)),)),
                                               ("times", "t", ("t", "t"), 0, (((1, (0, 0), -1),),))], "t", [(0, 3)])
        tree = [("leaf", (), (name,)) for name in "fedcba"]
        for at in range(5):
            tree.append(("times", (at + 5 if at else 0, at + 1), ()))
        found = answers_with(grammar, tree)
        self.assertEqual(found, [[(3, names) for many in range(7) for names in itertools.combinations("abcdef", many)]])
        self.assertEqual(mattering(grammar, tree), list("abcdef"))
        self.assertEqual(parted(grammar, tree, [("leaf", (), (0,))]), dict(dict.fromkeys("bcdef", 0), a=1))

    def test_trees_of_2000_steps(self):
        for width in (1, 64):
            lists = Grammar(width, lists_grammar().kinds, lists_grammar().rules, "list", [(0, 0, 1)])
            names = iter("fedcba")
            tree = [NIL] + [("cons", (at,), (next(names) if at % 350 == 7 else at,)) for at in range(1999)]
            wish = sum(at for at in range(1999) if at % 350 != 7) % 2 ** width
            rest = [(1, (name,)) for name in "abcdef"]
            self.assertEqual(answers_with(lists, tree), [[(wish, ())] * (wish > 0) + rest])
            self.assertEqual(mattering(lists, tree), list("abcdef"))
            self.assertIsNone(parted(lists, tree, list(tree)))
        wide = wide_grammar(64, 9)
        dice = random.Random(9)
        tree = with_names(straight_tree(wide, "a", 1980, dice), 6, dice)
        numbers = {name: dice.randrange(2 ** 64) for name in names_of(tree)}
        told = answers_with(wide, tree)
        self.assertEqual([told_value(row, numbers, 64) for row in told], answers_of(wide, filled(tree, numbers)))

    def test_steps_of_2_to_the_1900_nodes(self):
        places = places_grammar(64)
        tree = [("leaf", (), (1,))] + [("join", (at, at), ()) for at in range(1900)]
        tree += [("leaf", (), ("x",)), ("join", (1900, 1901), ())]
        self.assertEqual(value_with(places, tree)[1], [(1, ("x",))])
        tree.append(("join", (1902, 1902), ()))
        with self.assertRaises(NotOnce):
            value_with(places, tree)

    def test_not_top(self):
        sums = sums_grammar()
        leaf = [("one", (), ("x",))]
        for called in (answers_with, mattering, lambda *both: parted(*both, None),
                       lambda *both: parted(both[0], X, both[1])):
            with self.assertRaises(NotTop) as caught:
                called(sums, leaf)
            self.assertEqual(caught.exception.kind, "leaf")
            with self.assertRaises(NotOnce):
                called(sums, leaf + [("one", (), (1,))])


class MatteringTest(unittest.TestCase):

    def test_against_all_bits(self):
        told = set()
        for grammar, tree, _ in trees_with_names(4, range(150)):
            names, wish = names_of(tree), []
            for name in sorted(names):
                for numbers in all_bits(names):
                    other = dict(numbers, **{name: 1})
                    if answers_of(grammar, filled(tree, numbers)) != answers_of(grammar, filled(tree, other)):
                        wish.append(name)
                        break
            found = mattering(grammar, tree)
            self.assertEqual(found, wish)
            told.add((len(names), len(found)))
        self.assertTrue({(4, 4), (4, 3), (1, 0), (1, 1), (0, 0)} <= told, told)

    def test_one_that_matters_in_one_answer_alone(self):
        grammar = Grammar(8, [("a", ("x", "y"))], [("leaf", "a", (), 2, (((1, (), 0),), ((1, (), 1),)))], "a",
                          [(0, 16, 0), (1, 0, 256), (2, 0, 128)])
        self.assertEqual(mattering(grammar, [("leaf", (), ("b", "a"))]), ["a", "b"])
        other = Grammar(8, grammar.kinds, grammar.rules, "a", [(0, 16, 0), (1, 0, 256)])
        self.assertEqual(mattering(other, [("leaf", (), ("b", "a"))]), ["b"])

    def test_it_depends_on_the_numbers_beside(self):
        grammar = Grammar(4, [("t", ("x",))], [("leaf", "t", (), 1, (((1, (), 0),),)),
                                              ("times", "t", ("t", "t"), 0, (((1, (0, 0), -1),),))], "t", [(0, 1)])
        for number, wish in ((0, []), (16, []), (8, ["x"]), (1, ["x"])):
            tree = [("leaf", (), ("x",)), ("leaf", (), (number,)), ("times", (0, 1), ())]
            self.assertEqual(mattering(grammar, tree), wish)


class PutInTest(unittest.TestCase):

    def test_some_and_all(self):
        mixed = mixed_grammar()
        tree = [("la", (), ("a", -7)), ("lb", (), ()), ("ja", (0, 1), ("b",)), ("jb", (2, 2), ()),
                ("ub", (2,), (3, "c"))]
        self.assertEqual(put_in(mixed, tree, {"b": 10 ** 30, "a": -2}),
                         [("la", (), (-2, -7)), ("lb", (), ()), ("ja", (0, 1), (10 ** 30,)), ("jb", (2, 2), ()),
                          ("ub", (2,), (3, "c"))])
        self.assertEqual(put_in(mixed, tuple(tree), {}), tree)
        self.assertEqual(put_in(sums_grammar(), FIVE, {}), FIVE)

    def test_what_is_put_in_is_what_the_sums_tell(self):
        for grammar, tree, dice in trees_with_names(5, range(60)):
            numbers = {name: dice.randrange(-5, 99) for name in names_of(tree) if dice.randrange(3)}
            found = put_in(grammar, tree, numbers)
            rest = {name: name for name in names_of(tree)}
            self.assertEqual(found, filled(tree, dict(rest, **numbers)))
            more = {name: 7 for name in names_of(found)}
            told = [told_value(row, dict(numbers, **more), grammar.width) for row in answers_with(grammar, tree)]
            self.assertEqual(told, answers_of(grammar, put_in(grammar, found, more)))

    def test_no_numbers(self):
        sums = sums_grammar()
        wrong = [thing for thing in odd_values() if thing != {}]
        wrong += [{"y": 1}, {"x": 1, "y": 1}, {"": 1}, [("x", 1)], {"x": "x"}]
        wrong += [{"x": thing} for thing in no_integers()]
        for thing in odd_values():
            try:
                hash(thing)
            except TypeError:
                continue
            wrong.append({"x": 1, thing: 1})
        for numbers in wrong:
            with self.assertRaises(NoNumbers) as caught:
                put_in(sums, X, numbers)
            self.assertEqual(caught.exception.index, -1)
        with self.assertRaises(NoNumbers):
            put_in(sums, FIVE, {"x": 1})


class PartedTest(unittest.TestCase):

    def check(self, grammar, one, other):
        names = sorted(set(names_of(one) + names_of(other)))
        wish = None
        for numbers in all_bits(names):
            if answers_of(grammar, filled(one, numbers)) != answers_of(grammar, filled(other, numbers)):
                wish = numbers
                break
        found = parted(grammar, one, other)
        self.assertEqual(found, wish)
        if found is not None:
            self.assertIs(type(found), dict)
            self.assertEqual(set(map(type, found.values())) - {int}, set())
        return None if found is None else sum(found.values())

    def test_against_all_bits(self):
        told = set()
        for grammar, one, dice in trees_with_names(4, range(150)):
            # The other tree has the same steps, with some other numbers, so that both may differ in few products.
            bare = [(rule, places, tuple(dice.choice((0, 0, 1, 2)) for _ in given)) for rule, places, given in one]
            other = with_names(bare, 4, dice)
            told.add(self.check(grammar, one, other))
            places = [at for at, step in enumerate(one) if names_of([step])]
            turned = [(rule, where, given[::-1]) for rule, where, given in one]
            told.add(self.check(grammar, one, turned))
            if places:
                at = dice.choice(places)
                less = one[:at] + [one[at][:2] + (tuple(0 for _ in one[at][2]),)] + one[at + 1:]
                told.add(self.check(grammar, one, less))
            told.add(self.check(grammar, one, list(one)))
        self.assertTrue(told >= {None, 0, 1, 2}, told)

    def test_the_example(self):
        self.assertEqual(parted(sums_grammar(), [NIL], X), {"x": 0})

    def test_the_tuple_of_the_names_with_1_that_comes_first(self):
        lists = lists_grammar()

        def chain(*numbers):
            return [NIL] + [("cons", (at,), (number,)) for at, number in enumerate(numbers)]
        self.assertEqual(parted(lists, chain("b", "c", "a"), chain("a", 0, 0)), {"a": 0, "b": 1, "c": 0})
        self.assertEqual(parted(lists, chain("c", "b"), chain()), {"b": 1, "c": 0})
        self.assertEqual(parted(lists, chain("c", "ab"), chain("b", "aa", 0)), {"aa": 1, "ab": 0, "b": 0, "c": 0})
        self.assertEqual(parted(lists, chain("b", 1), chain("b", "a")), {"a": 0, "b": 0})
        self.assertIsNone(parted(lists, chain("b", "a", 256), chain(0, "a", "b")))

    def test_only_a_product_differs(self):
        grammar = Grammar(8, [("t", ("x",))], [("leaf", "t", (), 1, (((1, (), 0),),)),
                                              ("times", "t", ("t", "t"), 0, (((1, (0, 0), -1),),)),
                                              ("plus", "t", ("t", "t"), 0, (((1, (0, -1), -1), (1, (-1, 0), -1)),))],
                          "t", [(0, 1)])
        leaf = [("leaf", (), (name,)) for name in ("d", "c", "b", "a")]
        one = leaf + [("times", (0, 1), ()), ("times", (2, 3), ()), ("plus", (4, 5), ())]
        zero = [("leaf", (), (0,))]
        self.assertEqual(parted(grammar, one, zero), {"a": 1, "b": 1, "c": 0, "d": 0})
        self.assertEqual(parted(grammar, one, leaf[2:] + [("times", (0, 1), ())]), {"a": 0, "b": 0, "c": 1, "d": 1})
        twelve = [[("leaf", (), (name,)) for name in names] for names in ("abcdef", "ghijkl")]
        trees = []
        for steps in twelve:
            trees.append(steps + [("times", (at + 5 if at else 0, at + 1), ()) for at in range(5)])
        self.assertEqual(parted(grammar, *trees), {name: int(name < "g") for name in "abcdefghijkl"})

    def test_errors_of_one_come_ahead_of_those_of_the_other(self):
        sums = sums_grammar()
        leaf = [("one", (), ("x",))]
        twice = [("one", (), ("x",)), NIL]
        many = [("one", (), (name,)) for name in "abcdefg"] + [NIL]
        ordered = [([None], NoTree), (many, ManyUnknowns), (twice, NotOnce), (leaf, NotTop)]
        for one, error in ordered:
            for other, _ in ordered:
                with self.assertRaises(error):
                    parted(sums, one, other)
            with self.assertRaises(error):
                parted(sums, X, one)


class GeneralRulesTest(unittest.TestCase):

    def test_by_name(self):
        sums = sums_grammar()
        self.assertEqual(unknowns(tree=X, grammar=sums), ["x"])
        self.assertEqual(value_with(tree=X, grammar=sums), [[(1, ())], [(1, ("x",))]])
        self.assertEqual(answers_with(tree=X, grammar=sums), [[(2, ()), (1, ("x",))]])
        self.assertEqual(mattering(tree=X, grammar=sums), ["x"])
        self.assertEqual(put_in(numbers={"x": 4}, tree=X, grammar=sums)[1], ("one", (), (4,)))
        self.assertEqual(parted(other=X, one=[NIL], grammar=sums), {"x": 0})

    def test_lists_and_tuples_are_alike(self):
        for grammar, tree, _ in trees_with_names(4, range(30)):
            for called in (unknowns, value_with, answers_with, mattering):
                self.assertEqual(called(grammar, tree), called(grammar, tuple(tree)))
            self.assertIsNone(parted(grammar, tree, tuple(tree)))

    def test_arguments_stay_as_they_were_and_results_may_be_changed(self):
        sums, tree, numbers = sums_grammar(), copy.deepcopy(X), {"x": 4}
        for called in (unknowns, value_with, answers_with, mattering):
            wish = copy.deepcopy(called(sums, tree))
            called(sums, tree).clear()
            self.assertEqual(called(sums, tree), wish)
        answers_with(sums, tree)[0].clear()
        put_in(sums, tree, numbers).clear()
        parted(sums, [NIL], tree).clear()
        self.assertEqual((sums, tree, numbers), (sums_grammar(), X, {"x": 4}))

    def test_kinds_without_contexts(self):
        tree = [("only", (), ("x", "y"))]
        self.assertEqual(value_with(bare_grammar(), tree), [[(1, ("x",)), (2, ("y",))]])


if __name__ == "__main__":
    unittest.main()
