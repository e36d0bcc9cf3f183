"""The rows of the interface: names, parameters, and the files in which things are defined."""

import inspect
import unittest

from leastattr import (apart, behaviours, codes, compiling, errors, exchange, grammars, hulls, judging, modules,
                       recipes, splits, squares, trees, unknowns, wants)

ROWS = [
    (grammars, "Grammar", ["width", "kinds", "rules", "top", "answers"]),
    (trees, "value", ["grammar", "tree"]),
    (trees, "kind_of", ["grammar", "tree"]),
    (trees, "count_nodes", ["grammar", "tree"]),
    (trees, "answers_of", ["grammar", "tree"]),
    (trees, "kinds_of_context", ["grammar", "context"]),
    (trees, "context_map", ["grammar", "context"]),
    (trees, "fill", ["grammar", "context", "tree"]),
    (modules, "echelon", ["width", "size", "rows"]),
    (modules, "count", ["width", "size", "rows"]),
    (modules, "is_in", ["width", "size", "rows", "row"]),
    (modules, "coefficients", ["width", "size", "rows", "row"]),
    (modules, "kernel", ["width", "size", "rows"]),
    (modules, "meet", ["width", "size", "one", "other"]),
    (modules, "generators", ["width", "size", "rows"]),
    (modules, "picked", ["width", "size", "rows"]),
    (modules, "smith", ["width", "table"]),
    (hulls, "hull", ["grammar", "kind"]),
    (hulls, "all_hulls", ["grammar"]),
    (hulls, "relations", ["grammar", "kind"]),
    (hulls, "nonzero", ["grammar", "kind", "form"]),
    (hulls, "spanning_trees", ["grammar", "kind"]),
    (hulls, "is_spanning", ["grammar", "kind", "trees"]),
    (wants, "wanted", ["grammar", "kind"]),
    (wants, "all_wanted", ["grammar"]),
    (wants, "is_wanted", ["grammar", "kind", "form"]),
    (wants, "spanning_contexts", ["grammar", "kind"]),
    (wants, "is_spanning_contexts", ["grammar", "kind", "pairs"]),
    (wants, "told_apart", ["grammar", "kind", "one", "other"]),
    (behaviours, "least", ["grammar", "kind"]),
    (behaviours, "least_numbers", ["grammar"]),
    (behaviours, "table", ["grammar", "kind", "paper"]),
    (behaviours, "shown", ["grammar", "kind", "paper"]),
    (behaviours, "paper", ["grammar", "kind"]),
    (codes, "Code", ["width", "counts", "rules", "top", "answers"]),
    (codes, "registers", ["grammar", "code", "tree"]),
    (codes, "code_answers", ["grammar", "code", "tree"]),
    (judging, "judge", ["grammar", "code"]),
    (compiling, "compiled", ["grammar"]),
    (recipes, "takeover", ["grammar", "code", "kind"]),
    (recipes, "check_recipe", ["grammar", "code", "kind", "recipe"]),
    (recipes, "given_back", ["grammar", "code", "kind"]),
    (apart, "apart", ["one", "other"]),
    (exchange, "exchangeable", ["grammar", "one", "other"]),
    (exchange, "groups", ["grammar", "trees"]),
    (exchange, "shortened", ["grammar", "tree"]),
    (splits, "state_of", ["grammar", "automaton", "tree"]),
    (splits, "reached", ["grammar", "automaton"]),
    (splits, "split_numbers", ["grammar", "automaton"]),
    (splits, "split_grammar", ["grammar", "automaton"]),
    (squares, "quadratics", ["grammar", "kind"]),
    (squares, "breaking", ["grammar", "kind", "form"]),
    (unknowns, "unknowns", ["grammar", "tree"]),
    (unknowns, "value_with", ["grammar", "tree"]),
    (unknowns, "answers_with", ["grammar", "tree"]),
    (unknowns, "mattering", ["grammar", "tree"]),
    (unknowns, "put_in", ["grammar", "tree", "numbers"]),
    (unknowns, "parted", ["grammar", "one", "other"]),
    (errors, "NoGrammar", ["part", "index"]),
    (errors, "NoRows", ["part", "index"]),
    (errors, "NoTree", ["index"]),
    (errors, "NoContext", ["index"]),
    (errors, "NoKind", ["kind"]),
    (errors, "NotTop", ["kind"]),
    (errors, "NoForm", ["index"]),
    (errors, "NoState", ["index"]),
    (errors, "NoPaper", ["part", "index"]),
    (errors, "NoCode", ["part", "index"]),
    (errors, "NotOver", ["rule"]),
    (errors, "NoRecipe", ["index"]),
    (errors, "WrongKind", ["kind"]),
    (errors, "NoSplit", ["part"]),
    (errors, "ManyUnknowns", ["number"]),
    (errors, "NotOnce", ["name"]),
    (errors, "NoNumbers", ["index"]),
]


class InterfaceTest(unittest.TestCase):

    def test_names_and_parameters(self):
        for module, name, parameters in ROWS:
            with self.subTest(name=name):
                found = inspect.signature(getattr(module, name)).parameters
                self.assertEqual(list(found), parameters)
                kinds = [parameter.kind for parameter in found.values()]
                self.assertEqual(set(kinds), {inspect.Parameter.POSITIONAL_OR_KEYWORD})

    def test_each_is_defined_in_its_own_file(self):
        for module, name, _ in ROWS:
            self.assertEqual(getattr(module, name).__module__, module.__name__)


if __name__ == "__main__":
    unittest.main()
