"""The rows of the interface: names, parameters, and the files in which things are defined."""

import inspect
import unittest

from leastattr import (apart, behaviours, chains, codes, compiling, documents, errors, exchange, grammars, hulls,
                       judging, modules, order, recipes, splits, squares, texts, trees, unknowns, wants)

ROWS = [
    (grammars, "Grammar", ["width", "kinds", "rules", "top", "answers"]),
    (trees, "value", ["grammar", "tree"]),
    (trees, "kind_of", ["grammar", "tree"]),
    (trees, "count_nodes", ["grammar", "tree"]),
    (trees, "answers_of", ["grammar", "tree"]),
    (trees, "kinds_of_context", ["grammar", "context"]),
    (trees, "context_map", ["grammar", "context"]),
    (trees, "fill", ["grammar", "context", "tree"]),
    (modules, "echelon", ["width", "size", "rows"]),
    (modules, "count", ["width", "size", "rows"]),
    (modules, "is_in", ["width", "size", "rows", "row"]),
    (modules, "coefficients", ["width", "size", "rows", "row"]),
    (modules, "kernel", ["width", "size", "rows"]),
    (modules, "meet", ["width", "size", "one", "other"]),
    (modules, "generators", ["width", "size", "rows"]),
    (modules, "picked", ["width", "size", "rows"]),
    (modules, "smith", ["width", "table"]),
    (hulls, "hull", ["grammar", "kind"]),
    (hulls, "all_hulls", ["grammar"]),
    (hulls, "relations", ["grammar", "kind"]),
    (hulls, "nonzero", ["grammar", "kind", "form"]),
    (hulls, "spanning_trees", ["grammar", "kind"]),
    (hulls, "is_spanning", ["grammar", "kind", "trees"]),
    (wants, "wanted", ["grammar", "kind"]),
    (wants, "all_wanted", ["grammar"]),
    (wants, "is_wanted", ["grammar", "kind", "form"]),
    (wants, "spanning_contexts", ["grammar", "kind"]),
    (wants, "is_spanning_contexts", ["grammar", "kind", "pairs"]),
    (wants, "told_apart", ["grammar", "kind", "one", "other"]),
    (behaviours, "least", ["grammar", "kind"]),
    (behaviours, "least_numbers", ["grammar"]),
    (behaviours, "table", ["grammar", "kind", "paper"]),
    (behaviours, "shown", ["grammar", "kind", "paper"]),
    (behaviours, "paper", ["grammar", "kind"]),
    (codes, "Code", ["width", "counts", "rules", "top", "answers"]),
    (codes, "registers", ["grammar", "code", "tree"]),
    (codes, "code_answers", ["grammar", "code", "tree"]),
    (judging, "judge", ["grammar", "code"]),
    (compiling, "compiled", ["grammar"]),
    (recipes, "takeover", ["grammar", "code", "kind"]),
    (recipes, "check_recipe", ["grammar", "code", "kind", "recipe"]),
    (recipes, "given_back", ["grammar", "code", "kind"]),
    (apart, "apart", ["one", "other"]),
    (exchange, "exchangeable", ["grammar", "one", "other"]),
    (exchange, "groups", ["grammar", "trees"]),
    (exchange, "shortened", ["grammar", "tree"]),
    (splits, "state_of", ["grammar", "automaton", "tree"]),
    (splits, "reached", ["grammar", "automaton"]),
    (splits, "split_numbers", ["grammar", "automaton"]),
    (splits, "split_grammar", ["grammar", "automaton"]),
    (squares, "quadratics", ["grammar", "kind"]),
    (squares, "breaking", ["grammar", "kind", "form"]),
    (unknowns, "unknowns", ["grammar", "tree"]),
    (unknowns, "value_with", ["grammar", "tree"]),
    (unknowns, "answers_with", ["grammar", "tree"]),
    (unknowns, "mattering", ["grammar", "tree"]),
    (unknowns, "put_in", ["grammar", "tree", "numbers"]),
    (unknowns, "parted", ["grammar", "one", "other"]),
    (documents, "Document", ["grammar", "tree", "*code"]),
    (documents.Document, "node_count", ["self"]),
    (documents.Document, "kind_at", ["self", "path"]),
    (documents.Document, "state_at", ["self", "path"]),
    (documents.Document, "answers_now", ["self"]),
    (documents.Document, "tree_at", ["self", "path"]),
    (documents.Document, "context_at", ["self", "path"]),
    (documents.Document, "put_tree", ["self", "path", "tree"]),
    (documents.Document, "put_numbers", ["self", "path", "numbers"]),
    (documents.Document, "undo", ["self"]),
    (documents.Document, "redo", ["self"]),
    (chains, "chain_value", ["grammar", "context", "tree", "times"]),
    (chains, "chain_answers", ["grammar", "context", "tree", "times"]),
    (chains, "chain_nodes", ["grammar", "context", "tree", "times"]),
    (chains, "comes_back", ["grammar", "context", "tree"]),
    (chains, "loop_order", ["grammar", "context"]),
    (chains, "parting", ["grammar", "one", "other", "tree"]),
    (chains, "first_time", ["grammar", "context", "tree", "form", "wish", "*start"]),
    (texts, "grammar_text", ["grammar"]),
    (texts, "read_grammar", ["text"]),
    (texts, "tree_text", ["tree"]),
    (texts, "read_tree", ["text"]),
    (order, "swaps", ["grammar", "name"]),
    (order, "brackets", ["grammar", "name"]),
    (order, "idle", ["grammar", "context"]),
    (order, "crossed", ["grammar", "one", "other"]),
    (order, "doubled", ["grammar", "name"]),
    (errors, "NoGrammar", ["part", "index"]),
    (errors, "NoRows", ["part", "index"]),
    (errors, "NoTree", ["index"]),
    (errors, "NoContext", ["index"]),
    (errors, "NoKind", ["kind"]),
    (errors, "NotTop", ["kind"]),
    (errors, "NoForm", ["index"]),
    (errors, "NoState", ["index"]),
    (errors, "NoPaper", ["part", "index"]),
    (errors, "NoCode", ["part", "index"]),
    (errors, "NotOver", ["rule"]),
    (errors, "NoRecipe", ["index"]),
    (errors, "WrongKind", ["kind"]),
    (errors, "NoSplit", ["part"]),
    (errors, "ManyUnknowns", ["number"]),
    (errors, "NotOnce", ["name"]),
    (errors, "NoNumbers", ["index"]),
    (errors, "NoText", ["row"]),
    (errors, "NoPath", ["path"]),
    (errors, "LargeTree", ["nodes"]),
    (errors, "NoRule", ["rule"]),
    (errors, "NoCount", ["part"]),
]
DEFAULTS = {"code": None, "start": 0}


class InterfaceTest(unittest.TestCase):

    def test_names_and_parameters(self):
        for module, name, parameters in ROWS:
            with self.subTest(name=name):
                found = []
                for parameter in inspect.signature(getattr(module, name)).parameters.values():
                    alone = parameter.kind == inspect.Parameter.KEYWORD_ONLY
                    found.append("*" * alone + parameter.name)
                    self.assertIn(parameter.kind, (inspect.Parameter.POSITIONAL_OR_KEYWORD,
                                                   inspect.Parameter.KEYWORD_ONLY))
                    wish = DEFAULTS[parameter.name] if alone else inspect.Parameter.empty
                    self.assertIs(parameter.default, wish)
                self.assertEqual(found, parameters)

    def test_each_is_defined_in_its_own_file(self):
        for module, name, _ in ROWS:
            home = module.__module__ if inspect.isclass(module) else module.__name__
            self.assertEqual(getattr(module, name).__module__, home)
            self.assertIn(name, vars(module))


if __name__ == "__main__":
    unittest.main()
