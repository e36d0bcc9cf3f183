"""The sessions under "Examples" of the document."""

import unittest

SESSIONS = [
    '''
    >>> from leastattr.grammars import Grammar
    >>> from leastattr.trees import answers_of, count_nodes, value
    >>> sums = Grammar(8, [("leaf", ("n",)), ("row", ("size", "total"))], [("one", "leaf", (), 1, (((1, (), 0),),)), ("nil", "row", (), 0, ((), ())), ("put", "row", ("row", "leaf"), 0, (((1, (0, -1), -1), (1, (-1, -1), -1)), ((1, (1, -1), -1), (1, (-1, 0), -1))))], "row", [(0, 2, 1)])
    >>> tree = [("nil", (), ()), ("one", (), (5,)), ("put", (0, 1), ()), ("put", (2, 1), ())]
    >>> [value(sums, tree), answers_of(sums, tree), count_nodes(sums, tree)]
    [(2, 10), [14], 5]
    ''',
    '''
    >>> from leastattr.grammars import Grammar
    >>> Grammar(8, [("leaf", ("n", "n"))], [("one", "leaf", (), 0, ((),))], "leaf", [(0, 1)])
    raises NoGrammar('kinds', 0)
    ''',
    '''
    >>> from leastattr.grammars import Grammar
    >>> from leastattr.trees import count_nodes
    >>> twice = Grammar(8, [("k", ("x",))], [("one", "k", (), 0, (((1, (), -1),),)), ("two", "k", ("k", "k"), 0, (((1, (0, -1), -1), (1, (-1, 0), -1)),))], "k", [(0, 1)])
    >>> count_nodes(twice, [("one", (), ())] + [("two", (place, place), ()) for place in range(60)])
    2305843009213693951
    ''',
    '''
    >>> from leastattr.modules import count, echelon
    >>> [echelon(4, 2, [(4, 3)]), count(4, 2, [(4, 3)])]
    [[(4, 3), (0, 4)], 16]
    ''',
    '''
    >>> from leastattr.modules import coefficients, is_in
    >>> [is_in(4, 2, [(4, 3)], (8, 6)), is_in(4, 2, [(4, 3)], (8, 3)), coefficients(4, 2, [(4, 3)], (0, 12))]
    [True, False, (4,)]
    ''',
    '''
    >>> from leastattr.modules import kernel, meet
    >>> [kernel(4, 2, [(4, 3)]), meet(4, 2, [(4, 3)], [(0, 2)])]
    [[(1, 4)], [(0, 4)]]
    ''',
    '''
    >>> from leastattr.modules import generators
    >>> generators(4, 2, [(2, 0), (0, 8), (2, 8)])
    2
    ''',
    '''
    >>> from leastattr.modules import smith
    >>> [smith(4, [(2, 8), (2, 0)]), smith(4, [(8, 0), (0, 8)])]
    [[1, 3], [3, 3]]
    ''',
    '''
    >>> from leastattr.grammars import Grammar
    >>> from leastattr.behaviours import least_numbers
    >>> sums = Grammar(8, [("leaf", ("n",)), ("row", ("size", "total"))], [("one", "leaf", (), 1, (((1, (), 0),),)), ("nil", "row", (), 0, ((), ())), ("put", "row", ("row", "leaf"), 0, (((1, (0, -1), -1), (1, (-1, -1), -1)), ((1, (1, -1), -1), (1, (-1, 0), -1))))], "row", [(0, 2, 1)])
    >>> least_numbers(sums)
    [1, 1]
    ''',
    '''
    >>> from leastattr.grammars import Grammar
    >>> from leastattr.hulls import hull, is_spanning, relations
    >>> nodes = Grammar(8, [("t", ("n", "m"))], [("leaf", "t", (), 0, (((1, (), -1),), ((1, (), -1),))), ("join", "t", ("t", "t"), 0, (((1, (0, -1), -1), (1, (-1, 0), -1), (1, (-1, -1), -1)), ((1, (1, -1), -1), (1, (-1, 1), -1))))], "t", [(0, 1, 0)])
    >>> [hull(nodes, "t"), relations(nodes, "t"), is_spanning(nodes, "t", [[("leaf", (), ())]])]
    [((1, 1), [(2, 1), (0, 128)]), [(1, 1, 254)], False]
    ''',
    '''
    >>> from leastattr.grammars import Grammar
    >>> from leastattr.hulls import nonzero
    >>> from leastattr.trees import count_nodes
    >>> nodes = Grammar(8, [("t", ("n", "m"))], [("leaf", "t", (), 0, (((1, (), -1),), ((1, (), -1),))), ("join", "t", ("t", "t"), 0, (((1, (0, -1), -1), (1, (-1, 0), -1), (1, (-1, -1), -1)), ((1, (1, -1), -1), (1, (-1, 1), -1))))], "t", [(0, 1, 0)])
    >>> [nonzero(nodes, "t", (1, 1, 254)), count_nodes(nodes, nonzero(nodes, "t", (0, 1, 255)))]
    [None, 3]
    ''',
    '''
    >>> from leastattr.grammars import Grammar
    >>> from leastattr.wants import is_wanted, told_apart, wanted
    >>> nodes = Grammar(8, [("t", ("n", "m"))], [("leaf", "t", (), 0, (((1, (), -1),), ((1, (), -1),))), ("join", "t", ("t", "t"), 0, (((1, (0, -1), -1), (1, (-1, 0), -1), (1, (-1, -1), -1)), ((1, (1, -1), -1), (1, (-1, 1), -1))))], "t", [(0, 1, 0)])
    >>> [wanted(nodes, "t"), is_wanted(nodes, "t", (7, 4, 0)), told_apart(nodes, "t", (1, 1), (1, 2)), told_apart(nodes, "t", (1, 1), (2, 1))]
    [[(1, 0)], True, None, ([('', 't')], 0)]
    ''',
    '''
    >>> from leastattr.grammars import Grammar
    >>> from leastattr.hulls import hull, spanning_trees
    >>> from leastattr.wants import is_spanning_contexts, wanted
    >>> places = Grammar(8, [("t", ("n", "s", "p"))], [("leaf", "t", (), 1, (((1, (), -1),), ((1, (), 0),), ())), ("join", "t", ("t", "t"), 0, (((1, (0, -1), -1), (1, (-1, 0), -1)), ((1, (1, -1), -1), (1, (-1, 1), -1)), ((1, (2, -1), -1), (1, (-1, 2), -1), (1, (0, 1), -1))))], "t", [(0, 0, 0, 1)])
    >>> [hull(places, "t"), len(spanning_trees(places, "t")), wanted(places, "t"), is_spanning_contexts(places, "t", [([("", "t")], 0)])]
    [((0, 0, 0), [(1, 0, 0), (0, 1, 0), (0, 0, 1)]), 4, [(1, 0, 0), (0, 1, 0), (0, 0, 1)], False]
    ''',
    '''
    >>> from leastattr.grammars import Grammar
    >>> from leastattr.hulls import hull
    >>> hull(Grammar(8, [("t", ("n",))], [("up", "t", ("t",), 0, (((1, (0,), -1),),))], "t", [(0, 1)]), "t") is None
    True
    ''',
    '''
    >>> from leastattr.grammars import Grammar
    >>> from leastattr.hulls import nonzero
    >>> nodes = Grammar(8, [("t", ("n", "m"))], [("leaf", "t", (), 0, (((1, (), -1),), ((1, (), -1),))), ("join", "t", ("t", "t"), 0, (((1, (0, -1), -1), (1, (-1, 0), -1), (1, (-1, -1), -1)), ((1, (1, -1), -1), (1, (-1, 1), -1))))], "t", [(0, 1, 0)])
    >>> nonzero(nodes, "t", (1, True, 0))
    raises NoForm(1)
    ''',
    '''
    >>> from leastattr.grammars import Grammar
    >>> from leastattr.codes import Code
    >>> from leastattr.judging import judge
    >>> sums = Grammar(8, [("leaf", ("n",)), ("row", ("size", "total"))], [("one", "leaf", (), 1, (((1, (), 0),),)), ("nil", "row", (), 0, ((), ())), ("put", "row", ("row", "leaf"), 0, (((1, (0, -1), -1), (1, (-1, -1), -1)), ((1, (1, -1), -1), (1, (-1, 0), -1))))], "row", [(0, 2, 1)])
    >>> code = Code(8, [1, 1], [(0, (), 1, (((1, (), 0),),)), (1, (), 0, ((),)), (1, (1, 0), 0, (((1, (0, -1), -1), (1, (-1, 0), -1), (2, (-1, -1), -1)),))], 1, [(0, 1)])
    >>> judge(sums, code) is None
    True
    ''',
    '''
    >>> from leastattr.compiling import compiled
    >>> from leastattr.grammars import Grammar
    >>> rules = [("zero", "bit", (), 0, ((),)), ("one", "bit", (), 0, (((1, (), -1),),)), ("times", "pair", ("bit", "bit"), 0, (((2, (0, 0), -1),),))]
    >>> both = Grammar(2, [("bit", ("a",)), ("pair", ("p",))], rules, "pair", [(0, 1)])
    >>> compiled(both).counts
    (1, 1)
    ''',
    '''
    >>> from leastattr.compiling import compiled
    >>> from leastattr.codes import Code
    >>> from leastattr.grammars import Grammar
    >>> from leastattr.recipes import takeover
    >>> once = Grammar(8, [("x", ("a",))], [("leaf", "x", (), 1, (((1, (), 0),),))], "x", [(0, 2)])
    >>> twice = Code(8, [1], [(0, (), 1, (((2, (), 0),),))], 0, [(0, 1)])
    >>> [takeover(once, twice, "x"), takeover(once, compiled(once), "x") is None]
    [None, False]
    ''',
    '''
    >>> from leastattr.codes import Code
    >>> from leastattr.grammars import Grammar
    >>> from leastattr.recipes import check_recipe
    >>> once = Grammar(8, [("x", ("a",))], [("leaf", "x", (), 1, (((1, (), 0),),))], "x", [(0, 2)])
    >>> twice = Code(8, [1], [(0, (), 1, (((2, (), 0),),))], 0, [(0, 1)])
    >>> check_recipe(once, twice, "x", ((0, 1),)) is None
    False
    ''',
    '''
    >>> from leastattr.compiling import compiled
    >>> from leastattr.grammars import Grammar
    >>> from leastattr.recipes import given_back
    >>> from leastattr.wants import wanted
    >>> rules = [("zero", "bit", (), 0, ((),)), ("one", "bit", (), 0, (((1, (), -1),),)), ("times", "pair", ("bit", "bit"), 0, (((2, (0, 0), -1),),))]
    >>> both = Grammar(2, [("bit", ("a",)), ("pair", ("p",))], rules, "pair", [(0, 1)])
    >>> [wanted(both, "bit"), given_back(both, compiled(both), "bit")]
    [[(2,)], [(1,)]]
    ''',
    '''
    >>> from leastattr.grammars import Grammar
    >>> lists = Grammar(8, [('list', ('len', 'sum'))], [('nil', 'list', (), 0, ((), ())), ('cons', 'list', ('list',), 1, (((1, (0,), -1), (1, (-1,), -1)), ((1, (1,), -1), (1, (-1,), 0))))], 'list', [(0, 0, 1)])
    >>> odd = Grammar(8, lists.kinds, lists.rules, 'list', [(0, 0, 3)])
    >>> from leastattr.apart import apart
    >>> from leastattr.trees import count_nodes
    >>> [count_nodes(lists, apart(lists, odd)), apart(lists, lists)]
    [2, None]
    ''',
    '''
    >>> from leastattr.grammars import Grammar
    >>> lists = Grammar(8, [('list', ('len', 'sum'))], [('nil', 'list', (), 0, ((), ())), ('cons', 'list', ('list',), 1, (((1, (0,), -1), (1, (-1,), -1)), ((1, (1,), -1), (1, (-1,), 0))))], 'list', [(0, 0, 1)])
    >>> from leastattr.exchange import exchangeable
    >>> nil = ('nil', (), ())
    >>> told = exchangeable(lists, [nil, ('cons', (0,), (3,))], [nil, ('cons', (0,), (4,))])
    >>> [told[0][-1], told[1], exchangeable(lists, [nil], [nil, ('cons', (0,), (0,))])]
    [('', 'list'), 0, None]
    ''',
    '''
    >>> from leastattr.grammars import Grammar
    >>> lists = Grammar(8, [('list', ('len', 'sum'))], [('nil', 'list', (), 0, ((), ())), ('cons', 'list', ('list',), 1, (((1, (0,), -1), (1, (-1,), -1)), ((1, (1,), -1), (1, (-1,), 0))))], 'list', [(0, 0, 1)])
    >>> from leastattr.exchange import groups, shortened
    >>> nil = ('nil', (), ())
    >>> three = [nil, ('cons', (0,), (3,))]
    >>> groups(lists, [[nil], three, [nil, ('cons', (0,), (0,))], three])
    [[0, 2], [1, 3]]
    ''',
    '''
    >>> from leastattr.grammars import Grammar
    >>> lists = Grammar(8, [('list', ('len', 'sum'))], [('nil', 'list', (), 0, ((), ())), ('cons', 'list', ('list',), 1, (((1, (0,), -1), (1, (-1,), -1)), ((1, (1,), -1), (1, (-1,), 0))))], 'list', [(0, 0, 1)])
    >>> from leastattr.exchange import shortened
    >>> shortened(lists, [('nil', (), ()), ('cons', (0,), (4,)), ('cons', (1,), (-4,)), ('cons', (2,), (7,))])
    [('nil', (), ()), ('cons', (0,), (7,))]
    ''',
    '''
    >>> from leastattr.grammars import Grammar
    >>> lists = Grammar(8, [('list', ('len', 'sum'))], [('nil', 'list', (), 0, ((), ())), ('cons', 'list', ('list',), 1, (((1, (0,), -1), (1, (-1,), -1)), ((1, (1,), -1), (1, (-1,), 0))))], 'list', [(0, 0, 1)])
    >>> from leastattr.splits import reached, split_grammar, split_numbers, state_of
    >>> twos = {('cons', (0,)): 1}
    >>> [row[:2] for row in reached(lists, twos)], split_numbers(lists, twos)
    ([('list', 0), ('list', 1)], [('list', 0, 1), ('list', 1, 1)])
    ''',
    '''
    >>> from leastattr.grammars import Grammar
    >>> lists = Grammar(8, [('list', ('len', 'sum'))], [('nil', 'list', (), 0, ((), ())), ('cons', 'list', ('list',), 1, (((1, (0,), -1), (1, (-1,), -1)), ((1, (1,), -1), (1, (-1,), 0))))], 'list', [(0, 0, 1)])
    >>> from leastattr.splits import split_grammar
    >>> table, pairs = split_grammar(lists, {('cons', (0,)): 1})
    >>> [[name for name, names in table.kinds], [rule[:3] for rule in table.rules], pairs]
    [['pa', 'pb', 'top'], [('ra', 'pa', ()), ('rb', 'pb', ('pa',)), ('rc', 'pa', ('pb',)), ('rd', 'top', ('pa',)), ('re', 'top', ('pb',))], [('list', 0), ('list', 1)]]
    ''',
    '''
    >>> from leastattr.grammars import Grammar
    >>> from leastattr.squares import breaking, quadratics
    >>> bits = Grammar(6, [("b", ("x",))], [("zero", "b", (), 0, ((),)), ("one", "b", (), 0, (((1, (), -1),),)), ("both", "b", ("b", "b"), 0, (((1, (0, 0), -1),),))], "b", [(0, 1)])
    >>> [quadratics(bits, "b"), breaking(bits, "b", (0, 1, 0))[-1], breaking(bits, "b", (0, 1, -1))]
    [[(0, 1, 63)], ('one', (), ()), None]
    ''',
    '''
    >>> from leastattr.grammars import Grammar
    >>> from leastattr.unknowns import answers_with, mattering
    >>> sums = Grammar(8, [("leaf", ("n",)), ("row", ("size", "total"))], [("one", "leaf", (), 1, (((1, (), 0),),)), ("nil", "row", (), 0, ((), ())), ("put", "row", ("row", "leaf"), 0, (((1, (0, -1), -1), (1, (-1, -1), -1)), ((1, (1, -1), -1), (1, (-1, 0), -1))))], "row", [(0, 2, 1)])
    >>> tree = [("nil", (), ()), ("one", (), ("x",)), ("put", (0, 1), ())]
    >>> [answers_with(sums, tree), mattering(sums, tree)]
    [[[(2, ()), (1, ('x',))]], ['x']]
    ''',
    r'''
    >>> from leastattr.grammars import Grammar
    >>> lists = Grammar(8, [('list', ('len', 'sum'))], [('nil', 'list', (), 0, ((), ())), ('cons', 'list', ('list',), 1, (((1, (0,), -1), (1, (-1,), -1)), ((1, (1,), -1), (1, (-1,), 0))))], 'list', [(0, 0, 1)])
    >>> from leastattr.texts import grammar_text, read_grammar
    >>> [grammar_text(lists).split('\n')[2:6], read_grammar(grammar_text(lists)) == lists]
    [['rule nil list 0', 'len =', 'sum =', 'rule cons list 1 list'], True]
    ''',
    '''
    >>> from leastattr.texts import read_tree, tree_text
    >>> tree_text([('nil', (), ()), ('cons', (0,), (5,)), ('', 'list')])
    'nil; cons 0 # 5; ? list'
    ''',
    '''
    >>> from leastattr.grammars import Grammar
    >>> from leastattr.order import brackets, swaps
    >>> places = Grammar(8, [("t", ("n", "s", "p"))], [("leaf", "t", (), 1, (((1, (), -1),), ((1, (), 0),), ())), ("join", "t", ("t", "t"), 0, (((1, (0, -1), -1), (1, (-1, 0), -1)), ((1, (1, -1), -1), (1, (-1, 1), -1)), ((1, (2, -1), -1), (1, (-1, 2), -1), (1, (0, 1), -1))))], "t", [(0, 0, 0, 1)])
    >>> [brackets(places, "join"), swaps(places, "join") is None]
    [None, False]
    ''',
    '''
    >>> from leastattr.grammars import Grammar
    >>> from leastattr.order import doubled
    >>> nodes = Grammar(8, [("t", ("n", "m"))], [("leaf", "t", (), 0, (((1, (), -1),), ((1, (), -1),))), ("join", "t", ("t", "t"), 0, (((1, (0, -1), -1), (1, (-1, 0), -1), (1, (-1, -1), -1)), ((1, (1, -1), -1), (1, (-1, 1), -1))))], "t", [(0, 1, 0)])
    >>> bits = Grammar(6, [("b", ("x",))], [("zero", "b", (), 0, ((),)), ("one", "b", (), 0, (((1, (), -1),),)), ("both", "b", ("b", "b"), 0, (((1, (0, 0), -1),),))], "b", [(0, 1)])
    >>> [doubled(bits, "both"), doubled(nodes, "join")[0][-1]]
    [None, ('leaf', (), ())]
    ''',
    '''
    >>> from leastattr.grammars import Grammar
    >>> from leastattr.chains import chain_answers, chain_nodes, chain_value
    >>> sums = Grammar(8, [("leaf", ("n",)), ("row", ("size", "total"))], [("one", "leaf", (), 1, (((1, (), 0),),)), ("nil", "row", (), 0, ((), ())), ("put", "row", ("row", "leaf"), 0, (((1, (0, -1), -1), (1, (-1, -1), -1)), ((1, (1, -1), -1), (1, (-1, 0), -1))))], "row", [(0, 2, 1)])
    >>> loop = [("", "row"), ("one", (), (3,)), ("put", (0, 1), ())]
    >>> tree = [("nil", (), ())]
    >>> [chain_value(sums, loop, tree, 10 ** 30), chain_answers(sums, loop, tree, 4), chain_nodes(sums, loop, tree, 10 ** 30)]
    [(0, 0), [20], 2000000000000000000000000000001]
    ''',
    '''
    >>> from leastattr.grammars import Grammar
    >>> from leastattr.chains import comes_back, first_time, loop_order
    >>> sums = Grammar(8, [("leaf", ("n",)), ("row", ("size", "total"))], [("one", "leaf", (), 1, (((1, (), 0),),)), ("nil", "row", (), 0, ((), ())), ("put", "row", ("row", "leaf"), 0, (((1, (0, -1), -1), (1, (-1, -1), -1)), ((1, (1, -1), -1), (1, (-1, 0), -1))))], "row", [(0, 2, 1)])
    >>> loop = [("", "row"), ("one", (), (3,)), ("put", (0, 1), ())]
    >>> tree = [("nil", (), ())]
    >>> [comes_back(sums, loop, tree), loop_order(sums, loop), first_time(sums, loop, tree, (0, 0, 1), 2), first_time(sums, loop, tree, (0, 0, 1), 2, start=87)]
    [(0, 256), 256, 86, 342]
    ''',
    '''
    >>> from leastattr.grammars import Grammar
    >>> from leastattr.documents import Document
    >>> sums = Grammar(8, [("leaf", ("n",)), ("row", ("size", "total"))], [("one", "leaf", (), 1, (((1, (), 0),),)), ("nil", "row", (), 0, ((), ())), ("put", "row", ("row", "leaf"), 0, (((1, (0, -1), -1), (1, (-1, -1), -1)), ((1, (1, -1), -1), (1, (-1, 0), -1))))], "row", [(0, 2, 1)])
    >>> page = Document(sums, [("nil", (), ()), ("one", (), (5,)), ("put", (0, 1), ()), ("put", (2, 1), ())])
    >>> [page.put_numbers((0, 1), [6]), page.answers_now(), page.put_tree((1,), [("one", (), (261,))]), page.undo()]
    [3, [15], 1, True]
    ''',
]


def told_by(session):
    """What the last call of a session tells, and what stands behind it."""
    rows = [row.strip() for row in session.strip().split("\n")]
    names = {}
    for row in rows[:-2]:
        exec(row[4:], names)
    try:
        return repr(eval(rows[-2][4:], names)), rows[-1]
    except ValueError as error:
        return "raises " + repr(error), rows[-1]


class ExamplesTest(unittest.TestCase):

    def test_all_sessions(self):
        for session in SESSIONS:
            with self.subTest(session=session):
                found, wish = told_by(session)
                self.assertEqual(found, wish)


if __name__ == "__main__":
    unittest.main()
