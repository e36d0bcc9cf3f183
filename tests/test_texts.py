"""Stage 15: points 78 and 79, texts of grammars and of trees."""

import copy
import itertools
import random
import unittest

from leastattr.errors import NoGrammar, NoText, NoTree
from leastattr.grammars import Grammar
from leastattr.texts import grammar_text, read_grammar, read_tree, tree_text
from brute import small_grammar
from samples import (FIVE, LOOP, bare_grammar, bits_grammar, both_grammar, doubled_leaves, doubling_grammar,
                     late_grammar, lists_grammar, mixed_grammar, no_integers, nodes_grammar, odd_values, once_grammar,
                     places_grammar, random_context, random_tree, sums_grammar, wide_grammar)

LISTS = ["width 8", "kind list len sum", "rule nil list 0", "len =", "sum =", "rule cons list 1 list",
         "len = 1*0.len + 1", "sum = 1*0.sum + 1*#0", "top list", "answer 0 0 1"]
WORDS = ["kind", "rule", "top", "answer", "width", "a", "zzzzzzzz"]


def samples():
    """The grammars of the document, and others."""
    found = [sums_grammar(), nodes_grammar(64), places_grammar(1), mixed_grammar(), lists_grammar(), once_grammar(),
             both_grammar(), bits_grammar(), bare_grammar(), doubling_grammar(64), late_grammar(), wide_grammar(64, 1),
             worded_grammar()]
    return found + [small_grammar(seed) for seed in range(60)]


def worded_grammar():
    """A grammar with the words that begin rows as its names."""
    kinds = [("kind", ("rule", "kind", "top")), ("rule", ("answer",)), ("top", ("width", "top")), ("answer", ("kind",))]
    rules = [("rule", "kind", (), 2, (((5, (), 1),), (), ((1, (), -1), (2, (), 0)))),
             ("top", "rule", ("kind", "top"), 1, (((3, (1, 1), 0), (3, (2, -1), -1)),)),
             ("answer", "top", ("top",), 0, (((1, (1,), -1),), ())),
             ("kind", "answer", ("answer", "answer"), 0, (((0, (0, 0), -1), (9, (-1, 0), -1)),))]
    return Grammar(7, kinds, rules, "top", [(1, 2, 3), (0, 0, 0)])


def text_by(grammar):
    """The text of a grammar, straight from point 78."""
    names = dict(grammar.kinds)
    rows = ["width %d" % grammar.width]
    rows += [" ".join(("kind", kind) + attributes) for kind, attributes in grammar.kinds]
    for name, kind, children, numbers, values in grammar.rules:
        rows.append(" ".join(("rule", name, kind, str(numbers)) + children))
        for attribute, terms in zip(names[kind], values):
            told = []
            for factor, picks, number in terms:
                word = str(factor)
                for at, pick in enumerate(picks):
                    word += "" if pick < 0 else "*%d.%s" % (at, names[children[at]][pick])
                told.append(word + ("" if number < 0 else "*#%d" % number))
            rows.append(attribute + " =" + (" " + " + ".join(told) if told else ""))
    rows.append("top " + grammar.top)
    return "\n".join(rows + ["answer " + " ".join(map(str, answer)) for answer in grammar.answers])


def with_row(at, *rows):
    """The text of `lists` with other rows, or none, in the place of one."""
    return "\n".join(LISTS[:at] + list(rows) + LISTS[at + 1:])


class GrammarTextTest(unittest.TestCase):

    def test_the_rows(self):
        for grammar in samples():
            self.assertEqual(grammar_text(grammar), text_by(grammar))

    def test_the_example(self):
        self.assertEqual(grammar_text(lists_grammar()), "\n".join(LISTS))

    def test_terms_of_two_children_and_numbers(self):
        rows = grammar_text(mixed_grammar()).split("\n")
        self.assertIn("rule ja a 1 a b", rows)
        self.assertIn("x = 1*0.x*1.z*#0 + 2*0.y + 1*1.z", rows)
        self.assertIn("y = 3*0.y*1.z + 1*0.x*#0 + 9", rows)
        self.assertIn("y = 255*#1", rows)

    def test_it_reads_as_the_grammar(self):
        for grammar in samples():
            found = read_grammar(grammar_text(grammar))
            self.assertIs(type(found), Grammar)
            self.assertEqual(found, grammar)
            self.assertEqual(grammar_text(found), grammar_text(grammar))


class ReadGrammarTest(unittest.TestCase):

    def fails(self, row, text):
        with self.assertRaises(NoText) as caught:
            read_grammar(text)
        self.assertEqual(caught.exception.row, row, text)

    def test_integers_need_not_be_reduced(self):
        text = with_row(7, "sum = -255*0.sum + 257*#0 + 0 + -256")
        text = text.replace("answer 0 0 1", "answer -256 256 1025\nanswer -1 0 %d" % 10 ** 999)
        lists = lists_grammar()
        wish = Grammar(8, lists.kinds, [lists.rules[0], ("cons", "list", ("list",), 1, (
            lists.rules[1][4][0], ((1, (1,), -1), (1, (-1,), 0), (0, (-1,), -1), (0, (-1,), -1))))], "list",
            [(0, 0, 1), (255, 0, 10 ** 999 % 256)])
        self.assertEqual(read_grammar(text), wish)

    def test_what_is_no_string(self):
        for thing in odd_values():
            if not isinstance(thing, str):
                self.fails(-1, thing)
        self.fails(-1, b"width 8")
        self.fails(-1, LISTS)

    def test_odd_strings(self):
        for text in ("", " ", "\n", "width", "width ", "width x", "Width 8", "width  8", " width 8", "width 8 ",
                     "width 8\r\n", "width\t8", "width 8 8", "kind list len", "lists", "8"):
            self.fails(0, text)

    def test_a_text_that_ends_too_early(self):
        for many in range(1, len(LISTS)):
            self.fails(many, "\n".join(LISTS[:many]))
            self.fails(many, "\n".join(LISTS[:many]) + "\n")

    def test_a_text_that_goes_on(self):
        self.fails(10, "\n".join(LISTS + [""]))
        self.fails(10, "\n".join(LISTS) + "\nanswer 0 0")
        for row in LISTS[:-1] + ["answer", "answers 0 0 1", "answer 0 0 1 ", "answer 0 0 1 2", "top list"]:
            self.fails(10, "\n".join(LISTS + [row]))
        self.assertEqual(len(read_grammar("\n".join(LISTS + ["answer 0 0 1"])).answers), 2)

    def test_a_row_that_is_missing(self):
        for at in range(len(LISTS) - 1):
            if at != 5:
                self.fails(at, with_row(at))
        # Without the row of the rule cons, its attributes stand where a rule or the top kind must.
        self.fails(5, with_row(5))
        self.fails(9, with_row(9))

    def test_a_row_that_stands_for_the_second_time(self):
        for at, row in enumerate(LISTS[:-1]):
            self.fails(at + 1, with_row(at, row, row))

    def test_wrong_rows(self):
        for at, rows in (
            (0, ("width 08", "width +8", "width -0", "width 00", "width 8.0", "width 0x8", "width --8", "width -",
                 "width 8-", "width 1_0", "width \u0668", "width \uff18", "width \u00b2", "")),
            (1, ("kind", "kind list", "kind list ", "kind List len", "kind list len len", "kind list len sum len",
                 "kind listlists len", "kind list len  sum", " kind list len", "kind list len sum ", "kind l1 len",
                 "kind list len=", "kinds list len sum", "rule nil list 0", "kind \u00e4 len", "kind list l\u00e4n")),
            (2, ("rule", "rule nil", "rule nil list", "rule nil list -1", "rule nil list -0", "rule nil list 00",
                 "rule nil list 0 ", "rule nil lists 0", "rule nil list 0 lists", "rule Nil list 0", "rule nil list x",
                 "rule nil list", "rule nil list +1", "top list", "rule nil list 0  list", "rule  list 0",
                 "rule nil list 0 list x", "rule nilnilnil list 0", "kind list len sum", "rule nil list 1.0")),
            (3, ("len", "len ", "len = ", "len  =", "len =1", "len = 1 +", "len = + 1", "len = 1 + + 1", "len = 1 1",
                 "sum =", "lens =", " len =", "= len", "len = 1*0.len", "len = x", "len = 01", "len = -0", "len = 00",
                 "len = 1*", "len = *", "len = 1 * 2", "len = 1*2", "len = 1*#", "len = 1*#-1", "len = 1*#00",
                 "len = 1*#x", "len = 1*#0*#0", "len = #0", "len = 1*#0*1", "len = 1-1", "len = 1 - 1", "len = 1+1",
                 "len = --1", "len == 1", "len = 1 +1", "rule cons list 1 list")),
            (6, ("len = 1*1.len", "len = 1*0.lens", "len = 1*0.list", "len = 1*0", "len = 1*0.", "len = 1*.len",
                 "len = 1*00.len", "len = 1*-0.len", "len = 1*-1.len", "len = 1*0.len*0.len", "len = 1*0.len*0.sum",
                 "len = 1*#0*0.len", "len = 0.len", "len = 1*0.len.sum", "len = 1*0.len*", "len = 1 *0.len",
                 "len = 1*0 .len", "len = 1*0.Len", "len = 1*x.len", "len = 1*0.len + ", "len = 1*0.len +  1",
                 "len = 1*" + "9" * 500 + ".len", "sum = 1*0.sum", "len = 1*0.len*#0*#0")),
            (8, ("top", "top ", "top lists", "top list list", "top list ", "Top list", "answer 0 0 1", "top nil",
                 "top len")),
            (9, ("answer", "answer 0 0", "answer 0 0 1 1", "answer 0 0 01", "answer 0 0 -0", "answer 0 0 x",
                 "answer 0  1", "answer 0 0 1 ", " answer 0 0 1", "answers 0 0 1", "answer 0 0 1.0", "top list",
                 "answer 0 0 +1", "answer 0 0 - 1", "answer 0,0,1")),
        ):
            for row in rows:
                self.fails(at, with_row(at, row))

    def test_names_that_stand_twice(self):
        self.fails(2, with_row(1, "kind list len sum", "kind list a"))
        self.fails(2, with_row(1, "kind list len sum", "kind other a b a"))
        self.fails(5, with_row(5, "rule nil list 1 list"))
        self.fails(8, with_row(8, "rule cons list 0", "len =", "sum =", "top list"))
        self.assertEqual(len(read_grammar(with_row(1, LISTS[1], "kind other len sum")).kinds), 2)

    def test_kinds_are_told_above(self):
        self.fails(2, with_row(2, "rule nil other 0"))
        self.fails(3, with_row(2, "rule list list 0 list list list other", "len =", "sum =").replace(
            "kind list len sum", "kind a b\nkind list len sum"))
        self.fails(4, with_row(3, "len =", "kind other a"))

    def test_children_out_of_order_or_twice(self):
        rows = grammar_text(mixed_grammar()).split("\n")
        at = rows.index("x = 1*0.x*1.z*#0 + 2*0.y + 1*1.z")
        for row in ("x = 1*1.z*0.x", "x = 1*0.x*0.y", "x = 1*1.z*1.z", "x = 1*0.z", "x = 1*1.x", "x = 1*2.x",
                    "x = 1*0.x*1.z*2.z", "x = 1*0.x*#0*1.z", "x = 1 + 1*1.z*0.x"):
            self.fails(at, "\n".join(rows[:at] + [row] + rows[at + 1:]))
        for row in ("x = 1*0.x*1.z*#0", "x = -7*0.y*1.z", "x = 1*1.z", "x ="):
            read_grammar("\n".join(rows[:at] + [row] + rows[at + 1:]))

    def test_the_first_wrong_row_is_told(self):
        dice = random.Random(3)
        for grammar in samples():
            rows = grammar_text(grammar).split("\n")
            for _ in range(6):
                one, other = dice.randrange(len(rows)), dice.randrange(len(rows))
                wrong = list(rows)
                wrong[one] += "\u00e4"
                wrong[other] = wrong[other] + " ="
                self.fails(min(one, other), "\n".join(wrong))

    def grammar_fails(self, part, index, text):
        with self.assertRaises(NoGrammar) as caught:
            read_grammar(text)
        self.assertEqual((caught.exception.part, caught.exception.index), (part, index))

    def test_no_grammar(self):
        for width in ("0", "65", "-8", "9" * 900):
            self.grammar_fails("width", -1, with_row(0, "width " + width))
        self.grammar_fails("kinds", -1, with_row(1, LISTS[1], *["kind " + name + " x" for name in "abcde"]))
        self.grammar_fails("kinds", 1, with_row(1, LISTS[1], "kind a b c d e"))
        self.grammar_fails("rules", 0, with_row(2, "rule nil list 3"))
        self.grammar_fails("rules", 0, with_row(2, "rule nil list " + "9" * 900))
        self.grammar_fails("rules", 1, with_row(5, "rule cons list 1 list list list"))
        self.grammar_fails("rules", 1, with_row(6, "len = " + " + ".join(["1"] * 13)))
        self.grammar_fails("rules", 1, with_row(6, "len = 1*#1"))
        self.grammar_fails("rules", 0, with_row(3, "len = 1*#0"))
        self.grammar_fails("rules", 1, with_row(7, "sum = 1*#" + "9" * 900))
        rules = [row for name in "abcdefghijk" for row in ("rule %s list 0" % name, "len =", "sum =")]
        self.grammar_fails("rules", -1, with_row(5, *rules, LISTS[5]))
        self.assertEqual(len(read_grammar(with_row(5, *rules[:-3], LISTS[5])).rules), 12)
        self.grammar_fails("answers", -1, "\n".join(LISTS + [LISTS[-1]] * 4))
        self.assertEqual(len(read_grammar("\n".join(LISTS + [LISTS[-1]] * 3)).answers), 4)

    def test_no_text_comes_ahead_of_no_grammar(self):
        self.fails(9, "\n".join(["width 65"] + LISTS[1:9] + ["answer 0"]))
        self.grammar_fails("width", -1, "\n".join(["width 65"] + LISTS[1:] + [LISTS[-1]] * 9))


def step_fits(step, at, holes):
    """Whether a step may stand in a text, straight from point 79."""
    def is_word(thing):
        return type(thing) is str and 1 <= len(thing) <= 8 and all("a" <= sign <= "z" for sign in thing)
    if type(step) is not tuple:
        return False
    if len(step) == 2:
        return step[0] == "" and is_word(step[1]) and holes == 0
    return (len(step) == 3 and is_word(step[0]) and type(step[1]) is tuple and type(step[2]) is tuple
            and all(type(place) is int and 0 <= place < at for place in step[1])
            and all(type(number) is int for number in step[2]))


class TreeTextTest(unittest.TestCase):

    def test_the_example(self):
        self.assertEqual(tree_text([("nil", (), ()), ("cons", (0,), (5,)), ("", "list")]), "nil; cons 0 # 5; ? list")

    def test_trees_and_contexts_read_as_they_are(self):
        for seed in range(60):
            mixed = mixed_grammar()
            for steps in (random_tree(mixed, "a", 12, seed), random_context(mixed, "a", 9, seed)):
                text = tree_text(steps)
                self.assertEqual(read_tree(text), steps)
                self.assertEqual(tree_text(tuple(steps)), text)
                self.assertEqual(tree_text(read_tree(text)), text)
        self.assertEqual(tree_text(FIVE), "nil; one # 5; put 0 1; put 2 1")
        self.assertEqual(tree_text(LOOP), "? row; one # 7; put 0 1")

    def test_no_grammar_is_looked_at(self):
        steps = [("abcdefgh", (), (1, -2, 3, 10 ** 999, -10 ** 998)), ("", "nokind"), ("a", (0, 1, 0, 0, 1), ()),
                 ("a", (2,), (0,))]
        text = tree_text(steps)
        self.assertEqual(text, "abcdefgh # 1 -2 3 %d %d; ? nokind; a 0 1 0 0 1; a 2 # 0" % (10 ** 999, -10 ** 998))
        self.assertEqual(read_tree(text), steps)

    def test_2000_steps(self):
        steps = doubled_leaves(2000)
        self.assertEqual(read_tree(tree_text(steps)), steps)
        self.assertTrue(tree_text(steps).endswith("; join 1997 1997; join 1998 1998"))

    def tree_fails(self, index, steps):
        with self.assertRaises(NoTree) as caught:
            tree_text(steps)
        self.assertEqual(caught.exception.index, index)

    def test_no_tree(self):
        for thing in odd_values():
            self.tree_fails(0 if isinstance(thing, (list, tuple)) and thing else -1, thing)
            self.tree_fails(4, FIVE + [thing])
            self.tree_fails(1, (FIVE[0], thing, None))
        self.tree_fails(-1, FIVE * 501)
        self.tree_fails(-1, doubled_leaves(2001))
        for text in ("nil", "nil; one", b"nil", {0: FIVE[0]}):
            self.tree_fails(-1, text)

    def test_steps_that_cannot_stand_there(self):
        for thing in odd_values():
            steps = [(thing, (), ()), ("one", thing, ()), ("one", (), thing), ("one", (thing,), ()),
                     ("one", (), (thing,)), (thing, "row"), ("", thing), ("one", (), (), thing), (thing,)]
            for step in steps:
                for at, ahead in ((0, []), (1, [("", "row")]), (2, FIVE[:2])):
                    holes = sum(1 for other in ahead if len(other) == 2)
                    if step_fits(step, at, holes):
                        self.assertEqual(read_tree(tree_text(ahead + [step])), ahead + [step])
                    else:
                        self.tree_fails(at, ahead + [step, None])
        for thing in no_integers():
            self.tree_fails(1, [("nil", (), ()), ("one", (0, thing), ())])
            self.tree_fails(1, [("nil", (), ()), ("one", (), (0, thing))])

    def test_places_holes_and_lists(self):
        self.tree_fails(0, [("a", (0,), ())])
        self.tree_fails(1, [("a", (), ()), ("a", (0, 1), ())])
        self.tree_fails(1, [("a", (), ()), ("a", (-1,), ())])
        self.tree_fails(1, [("", "a"), ("", "a")])
        self.tree_fails(2, [("", "a"), ("b", (0,), ()), ("", "b")])
        self.tree_fails(0, [["a", (), ()]])
        self.tree_fails(0, [("a", [], ())])
        self.tree_fails(0, [("a", (), [])])
        self.tree_fails(0, [["", "a"]])
        for step in (("", "a", ()), ("", "a", (), ()), ("",), ("a", "a"), ("a", (), (), ()), ("", (), ())):
            self.tree_fails(0, [step])
        self.assertEqual(tree_text([("", "a")]), "? a")


class ReadTreeTest(unittest.TestCase):

    def fails(self, row, text):
        with self.assertRaises(NoText) as caught:
            read_tree(text)
        self.assertEqual(caught.exception.row, row, text)

    def test_what_is_no_string(self):
        for thing in odd_values():
            if not isinstance(thing, str):
                self.fails(-1, thing)
        self.fails(-1, b"nil")

    def test_the_example(self):
        self.fails(1, "nil; cons 1 # 5")

    def test_wrong_steps(self):
        for text in ("", " ", "nil ", " nil", "Nil", "nil 0", "nil #", "nil # ", "nil # 01", "nil # -0", "nil # 00",
                     "nil # +1", "nil # 1  2", "nil # 1 ", "nil # x", "nil # 1 # 2", "nil #1", "nil#", "# 1", "#",
                     "?", "? ", "? row ", "? Row", "? row # 1", "? row 0", "?row", "? row row", "? ? row", "nil ?",
                     "nil\n", "\nnil", "nil,", "nil;", "nil;x", "nil ; x", "nilnilnil", "n1", "\u00e4", "nil -0",
                     "nil # \u0661", "nil # 1.0", "nil # - 1", "nil # --1", "nil # -", ";", "; nil", "nil # 1_0"):
            self.fails(0, text)
        for text in ("x", "x 0", "x 0 0 # 1 -2", "? row", "x # 0", "x 0 # -10"):
            self.assertEqual(len(read_tree("nil; " + text)), 2)
        for text in ("", " ", "x 1", "x 00", "x -0", "x -1", "x 0 #", "x 0 # 5 ", "x  0", "x # 5 # 5", " x", "x 0 1",
                     "x " + "9" * 900, "x; ", "x\u00b2", "x \u00b2", "x \u0660"):
            self.fails(2 if text == "x; " else 1, "nil; " + text)

    def test_a_separator_too_many(self):
        self.fails(1, "nil; ")
        self.fails(1, "nil; ; nil")
        self.fails(1, "nil;  nil")
        self.fails(2, "nil; nil; ")

    def test_two_holes(self):
        self.fails(1, "? row; ? row")
        self.fails(2, "? row; x 0; ? other; X")

    def test_2000_steps_and_more(self):
        self.assertEqual(read_tree("; ".join(["nil"] * 2000)), [("nil", (), ())] * 2000)
        for many in (2001, 2500):
            self.fails(2000, "; ".join(["nil"] * many))
        self.fails(3, "; ".join(["nil"] * 3 + ["Nil"] + ["nil"] * 3000))
        self.fails(2000, "; ".join(["nil"] * 2000 + ["Nil"]))

    def test_places_may_be_any_earlier_steps(self):
        self.assertEqual(read_tree("a; b 0; c 1 0 1 1 # -5 0"),
                         [("a", (), ()), ("b", (0,), ()), ("c", (1, 0, 1, 1), (-5, 0))])

    def test_texts_of_random_signs_are_read_as_they_are_or_not_at_all(self):
        dice = random.Random(9)
        read = 0
        for _ in range(4000):
            text = "".join(dice.choice(["a", "bc", " ", "; ", ";", "#", " # ", "0", "1", "-", "?", "? ", "12"])
                           for _ in range(dice.randrange(1, 9)))
            try:
                steps = read_tree(text)
            except NoText as error:
                self.assertIn(error.row, range(text.count("; ") + 1))
                continue
            read += 1
            self.assertEqual(tree_text(steps), text)
        self.assertGreater(read, 100)


class GeneralRulesTest(unittest.TestCase):

    def test_by_name(self):
        self.assertEqual(grammar_text(grammar=lists_grammar()), "\n".join(LISTS))
        self.assertEqual(read_grammar(text="\n".join(LISTS)), lists_grammar())
        self.assertEqual(tree_text(tree=FIVE), "nil; one # 5; put 0 1; put 2 1")
        self.assertEqual(read_tree(text="nil"), [("nil", (), ())])

    def test_arguments_stay_as_they_were_and_results_may_be_changed(self):
        steps = copy.deepcopy(FIVE)
        tree_text(steps)
        self.assertEqual(steps, FIVE)
        read_tree("nil; x 0").clear()
        self.assertEqual(read_tree("nil; x 0"), [("nil", (), ()), ("x", (0,), ())])

    def test_rows_of_random_words_are_read_as_they_are_or_not_at_all(self):
        dice = random.Random(5)
        rows = text_by(worded_grammar()).split("\n")
        for _ in range(3000):
            at = dice.randrange(len(rows))
            words = rows[at].split(" ")
            words[dice.randrange(len(words)):][:1] = []
            place = dice.randrange(len(words))
            words[place] = dice.choice(WORDS + ["=", "+", "1", "0", "", "-1", words[place]])
            text = "\n".join(rows[:at] + [" ".join(words)] + rows[at + 1:])
            try:
                found = read_grammar(text)
            except (NoText, NoGrammar):
                continue
            self.assertEqual(len(grammar_text(found).split("\n")), len(rows))
        for one, other in itertools.permutations(range(len(rows)), 2):
            turned = list(rows)
            turned[one], turned[other] = rows[other], rows[one]
            try:
                self.assertEqual(len(grammar_text(read_grammar("\n".join(turned))).split("\n")), len(rows))
            except NoText as error:
                self.assertGreaterEqual(error.row, min(one, other))
            except NoGrammar:
                continue


if __name__ == "__main__":
    unittest.main()
