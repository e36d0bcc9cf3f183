"""Stage 3: points 15 to 20, judged by modules that are written out element by element."""

import copy
import itertools
import random
import unittest

from leastattr.errors import NoRows
from leastattr.modules import coefficients, count, echelon, generators, is_in, kernel, meet, picked, smith
from brute import all_rows, elements_of, product
from samples import no_integers, odd_values


def sum_of(width, size, factors, rows):
    """The sum of multiples of rows."""
    return tuple(sum(factor * row[at] for factor, row in zip(factors, rows)) % 2 ** width for at in range(size))


def lead_of(row):
    """How many zeros a row begins with."""
    return next((at for at, number in enumerate(row) if number), len(row))


def powers_of(width, size, rows):
    """The exponents of the invariant factors, told by how many elements 2 ** k times the module has."""
    elements = elements_of(width, size, rows)
    sizes = [len({tuple((number << k) % 2 ** width for number in row) for row in elements}) for k in range(width + 1)]
    exponents = []
    for k in range(width):
        # Going from k to k + 1 halves each summand whose exponent e has width - e > k.
        alive = (sizes[k] // sizes[k + 1]).bit_length() - 1
        exponents.append(alive)
    found = []
    for e in range(width):
        found += [e] * (exponents[width - e - 1] - (exponents[width - e] if e else 0))
    return found


def some_cases():
    """Widths, sizes and rows: all pairs of rows for small ones, and picked ones besides."""
    for width, size in ((1, 1), (1, 2), (2, 1), (3, 1), (2, 2)):
        rows = list(all_rows(width, size))
        for many in (0, 1, 2):
            for taken in itertools.product(rows, repeat=many):
                yield width, size, list(taken)
    dice = random.Random(5)
    for width, size in ((1, 4), (2, 3), (3, 2), (3, 3), (4, 2)):
        for many in (0, 1, 2, 3, 4, 5):
            for _ in range(6):
                odds = [2 ** dice.randrange(width + 1) for _ in range(size)]
                yield width, size, [tuple(dice.randrange(2 ** width) * odd % 2 ** width for odd in odds)
                                    for _ in range(many)]


class EchelonTest(unittest.TestCase):

    def check_steps(self, width, size, steps, elements):
        leads = [lead_of(row) for row in steps]
        self.assertEqual(leads, sorted(set(leads)))
        for at, row in enumerate(steps):
            pivot = row[leads[at]]
            self.assertEqual(pivot & (pivot - 1), 0)
            for before in steps[:at]:
                self.assertLess(before[leads[at]], pivot)
            for number in row:
                self.assertTrue(0 <= number < 2 ** width)
        for column in range(size + 1):
            ahead = {row for row in elements if not any(row[:column])}
            self.assertEqual(elements_of(width, size, [row for row in steps if not any(row[:column])]), ahead)

    def test_against_modules_written_out(self):
        for width, size, rows in some_cases():
            elements = elements_of(width, size, rows)
            self.check_steps(width, size, echelon(width, size, rows), elements)
            self.assertEqual(count(width, size, rows), len(elements))

    def test_one_list_for_each_module(self):
        dice = random.Random(6)
        for width, size, rows in some_cases():
            others = [sum_of(width, size, [dice.choice((1, 3, -1))], [row]) for row in rows]
            dice.shuffle(others)
            for row in rows:
                others.append(sum_of(width, size, [1, dice.randrange(9)], [others[0], row]))
            self.assertEqual(echelon(width, size, others), echelon(width, size, rows))

    def test_the_examples(self):
        self.assertEqual(echelon(4, 2, [(4, 3)]), [(4, 3), (0, 4)])
        self.assertEqual(count(4, 2, [(4, 3)]), 16)
        self.assertEqual(echelon(8, 2, [(2, 1)]), [(2, 1), (0, 128)])

    def test_width_64(self):
        self.assertEqual(echelon(64, 2, [(2 ** 63, 3)]), [(2 ** 63, 1), (0, 2)])
        self.assertEqual(count(64, 2, [(2 ** 63, 3)]), 2 ** 64)
        self.assertEqual(echelon(64, 1, [(3,)]), [(1,)])
        self.assertEqual(echelon(64, 1, [(2 ** 64 - 1,)]), [(1,)])
        self.assertEqual(echelon(64, 2, [(6, 0), (0, 2 ** 63)]), [(2, 0), (0, 2 ** 63)])
        self.assertEqual(count(64, 3, [(1, 0, 0), (0, 1, 0), (0, 0, 1)]), 2 ** 192)

    def test_width_1(self):
        self.assertEqual(echelon(1, 3, [(1, 1, 0), (0, 1, 1), (1, 0, 1)]), [(1, 0, 1), (0, 1, 1)])

    def test_numbers_of_any_size(self):
        self.assertEqual(echelon(4, 2, [(-12, 19), (16, 10 ** 30 * 16)]), [(4, 3), (0, 4)])
        self.assertEqual(echelon(8, 1, [(-10 ** 30 * 256 - 2,)]), [(2,)])
        self.assertEqual(count(4, 2, [(2 ** 100 + 4, -13)]), 16)

    def test_no_rows_and_size_0(self):
        for size in (0, 1, 5):
            self.assertEqual(echelon(8, size, []), [])
            self.assertEqual(echelon(8, size, [(0,) * size] * 3), [])
            self.assertEqual(echelon(8, size, [(256,) * size]), [])
            self.assertEqual(count(8, size, ()), 1)
        self.assertEqual(echelon(8, 0, [(), []]), [])
        self.assertEqual(count(8, 0, [()]), 1)


class IsInTest(unittest.TestCase):

    def test_against_modules_written_out(self):
        for width, size, rows in list(some_cases())[::7]:
            elements = elements_of(width, size, rows)
            for row in all_rows(width, size):
                self.assertIs(is_in(width, size, rows, row), row in elements)
                found = coefficients(width, size, rows, row)
                if row not in elements:
                    self.assertIsNone(found)
                    continue
                self.assertIs(type(found), tuple)
                self.assertEqual(len(found), len(rows))
                self.assertTrue(all(0 <= factor < 2 ** width for factor in found))
                self.assertEqual(sum_of(width, size, found, rows), row)

    def test_the_examples(self):
        self.assertIs(is_in(4, 2, [(4, 3)], (8, 6)), True)
        self.assertIs(is_in(4, 2, [(4, 3)], (8, 3)), False)
        self.assertEqual(coefficients(4, 2, [(4, 3)], (0, 12)), (4,))

    def test_edges(self):
        self.assertEqual(coefficients(8, 2, [], (0, 0)), ())
        self.assertEqual(coefficients(8, 2, [], (256, -256)), ())
        self.assertIsNone(coefficients(8, 2, [], (0, 1)))
        self.assertIs(is_in(8, 2, (), [0, 0]), True)
        self.assertIs(is_in(8, 2, (), [0, 1]), False)
        self.assertIs(is_in(8, 0, [()], ()), True)
        self.assertEqual(len(coefficients(8, 0, [(), ()], ())), 2)
        self.assertEqual(len(coefficients(8, 1, [(0,), (0,)], (0,))), 2)

    def test_width_64_and_large_numbers(self):
        rows = [(3, 10 ** 30), (-5, 7), (2 ** 63, 1)]
        wish = (-10 ** 25, 11)
        found = coefficients(64, 2, rows, wish)
        self.assertEqual(sum_of(64, 2, found, rows), tuple(number % 2 ** 64 for number in wish))
        self.assertIs(is_in(64, 2, rows, wish), True)
        self.assertIs(is_in(64, 1, [(2 ** 63,)], (2 ** 62,)), False)

    def test_many_rows(self):
        dice = random.Random(7)
        rows = [[dice.randrange(2 ** 16) * 4 for _ in range(6)] for _ in range(60)]
        wish = sum_of(16, 6, [dice.randrange(2 ** 16) for _ in rows], rows)
        self.assertEqual(sum_of(16, 6, coefficients(16, 6, rows, wish), rows), wish)


class KernelTest(unittest.TestCase):

    def test_against_modules_written_out(self):
        for width, size, rows in list(some_cases())[::3]:
            found = kernel(width, size, rows)
            wish = {one for one in all_rows(width, size) if not any(product(width, one, row) for row in rows)}
            self.assertEqual(elements_of(width, size, found), wish)
            self.assertEqual(found, echelon(width, size, found))

    def test_the_kernel_of_the_kernel_is_the_echelon(self):
        for width, size, rows in some_cases():
            self.assertEqual(kernel(width, size, kernel(width, size, rows)), echelon(width, size, rows))

    def test_the_example_and_edges(self):
        self.assertEqual(kernel(4, 2, [(4, 3)]), [(1, 4)])
        self.assertEqual(kernel(8, 2, []), [(1, 0), (0, 1)])
        self.assertEqual(kernel(8, 2, [(0, 256)]), [(1, 0), (0, 1)])
        self.assertEqual(kernel(8, 2, [(1, 0), (0, 1)]), [])
        self.assertEqual(kernel(8, 0, []), [])
        self.assertEqual(kernel(8, 0, [()]), [])
        self.assertEqual(kernel(64, 2, [(1, -1), (0, 2 ** 63)]), [(2, 2)])
        self.assertEqual(kernel(1, 3, [(1, 1, 1)]), [(1, 0, 1), (0, 1, 1)])


class MeetTest(unittest.TestCase):

    def test_against_modules_written_out(self):
        cases = list(some_cases())[::5]
        for width, size, one in cases:
            others = [rows for wide, long, rows in cases if (wide, long) == (width, size)]
            for other in others[::9]:
                found = meet(width, size, one, other)
                wish = elements_of(width, size, one) & elements_of(width, size, other)
                self.assertEqual(elements_of(width, size, found), wish)
                self.assertEqual(found, echelon(width, size, found))

    def test_the_example_and_edges(self):
        self.assertEqual(meet(4, 2, [(4, 3)], [(0, 2)]), [(0, 4)])
        self.assertEqual(meet(8, 2, [], [(1, 0)]), [])
        self.assertEqual(meet(8, 2, [(1, 0)], []), [])
        self.assertEqual(meet(8, 2, [(1, 0), (0, 1)], [(6, 2)]), echelon(8, 2, [(6, 2)]))
        self.assertEqual(meet(8, 0, [()], [()]), [])
        self.assertEqual(meet(64, 1, [(2 ** 40,)], [(2 ** 63 + 2 ** 50,)]), [(2 ** 50,)])


class GeneratorsTest(unittest.TestCase):

    def test_against_modules_written_out(self):
        for width, size, rows in some_cases():
            elements = elements_of(width, size, rows)
            doubles = {tuple(2 * number % 2 ** width for number in row) for row in elements}
            least = (len(elements) // len(doubles)).bit_length() - 1
            self.assertEqual(generators(width, size, rows), least)
            chosen = picked(width, size, rows)
            self.assertEqual(chosen, sorted(set(chosen)))
            self.assertEqual(len(chosen), least)
            self.assertEqual(elements_of(width, size, [rows[index] for index in chosen]), elements)

    def test_the_example_and_edges(self):
        self.assertEqual(generators(4, 2, [(2, 0), (0, 8), (2, 8)]), 2)
        self.assertEqual(generators(4, 2, [(4, 3)]), 1)
        for rows in ([], [(0, 0)], [(256, -512)] * 3):
            self.assertEqual(generators(8, 2, rows), 0)
            self.assertEqual(picked(8, 2, rows), [])
        self.assertEqual(generators(8, 0, [(), ()]), 0)
        self.assertEqual(picked(8, 0, [(), ()]), [])

    def test_late_rows_are_picked(self):
        self.assertEqual(picked(4, 1, [(8,), (4,), (12,), (2,), (6,)]) in ([3], [4]), True)
        self.assertEqual(picked(8, 2, [(0, 0), (2, 2), (0, 0), (0, 4), (2, 6)]) in ([1, 3], [1, 4], [3, 4]), True)

    def test_width_64(self):
        self.assertEqual(generators(64, 2, [(2 ** 63, 0), (0, 2 ** 63), (2 ** 63, 2 ** 63)]), 2)
        self.assertEqual(generators(64, 2, [(1, 0), (2 ** 63, 0), (10 ** 30, 2 ** 64)]), 1)


class SmithTest(unittest.TestCase):

    def test_against_modules_written_out(self):
        for width, size, rows in some_cases():
            self.assertEqual(smith(width, rows), powers_of(width, size, rows))

    def test_the_columns_give_the_same_list(self):
        for width, size, rows in some_cases():
            if rows:
                columns = [tuple(row[at] for row in rows) for at in range(size)]
                self.assertEqual(smith(width, columns), smith(width, rows))

    def test_the_examples(self):
        self.assertEqual(smith(4, [(2, 8), (2, 0)]), [1, 3])
        self.assertEqual(smith(4, [(8, 0), (0, 8)]), [3, 3])

    def test_edges(self):
        for table in ([], (), [()], [[], ()], [(0, 0)], [(16, -32), (0, 0)]):
            self.assertEqual(smith(4, table), [])
        self.assertEqual(smith(1, [(1, 1), (1, 1)]), [0])
        self.assertEqual(smith(64, [(2 ** 63, 2 ** 64 + 2 ** 62)]), [62])
        self.assertEqual(smith(64, [(3, 0, 0), (0, -6, 0), (0, 0, 10 ** 30 * 2 ** 32)]), [0, 1, 62])


class WrongRowsTest(unittest.TestCase):

    CALLS = {
        "echelon": lambda **more: echelon(**more), "count": lambda **more: count(**more),
        "kernel": lambda **more: kernel(**more), "generators": lambda **more: generators(**more),
        "picked": lambda **more: picked(**more), "is_in": lambda **more: is_in(row=(0, 0), **more),
        "coefficients": lambda **more: coefficients(row=(0, 0), **more),
        "meet one": lambda rows, **more: meet(one=rows, other=[], **more),
        "meet other": lambda rows, **more: meet(one=[], other=rows, **more),
    }

    def fails(self, part, index, called, *parts, **named):
        with self.assertRaises(NoRows) as caught:
            called(*parts, **named)
        self.assertEqual((caught.exception.part, caught.exception.index), (part, index))

    def rows_fail(self, index, rows):
        for name, called in self.CALLS.items():
            part = name.split()[-1] if " " in name else "rows"
            self.fails(part, index, called, width=8, size=2, rows=rows)

    def test_wrong_widths(self):
        for thing in odd_values() + [65]:
            for called in self.CALLS.values():
                self.fails("width", -1, called, width=thing, size=2, rows=[])
            self.fails("width", -1, smith, thing, [])

    def test_wrong_sizes(self):
        for thing in no_integers() + [-1, -10 ** 30]:
            for called in self.CALLS.values():
                self.fails("size", -1, called, width=8, size=thing, rows=[])

    def test_wrong_collections(self):
        for thing in odd_values() + ["ab"]:
            if not isinstance(thing, (list, tuple)):
                self.rows_fail(-1, thing)
                self.fails("table", -1, smith, 8, thing)

    def test_wrong_items(self):
        for thing in odd_values() + [(1,), (1, 2, 3), {1: 1, 2: 2}, "12", b"12", range(2)]:
            self.rows_fail(0, [thing])
            self.rows_fail(1, ((1, 2), thing, None))

    def test_wrong_numbers(self):
        for thing in no_integers():
            self.rows_fail(0, [(thing, 2)])
            self.rows_fail(1, [(1, 2), [1, thing]])
            self.fails("table", 0, smith, 8, [(thing, 2)])
            self.fails("table", 1, smith, 8, [(1, 2), [1, thing]])

    def test_wrong_tables(self):
        for thing in odd_values():
            if not isinstance(thing, (list, tuple)):
                self.fails("table", 0, smith, 8, [thing])
                self.fails("table", 0, smith, 8, [thing, ()])
            if thing != () and thing != []:
                self.fails("table", 1, smith, 8, [(), thing])
        self.fails("table", 1, smith, 8, [(1, 2), (1,), None])
        self.fails("table", 2, smith, 8, [(1, 2), (1, 2), (1, 2, 3)])

    def test_wrong_single_rows(self):
        for called in (is_in, coefficients):
            for thing in odd_values() + [(1,), (1, 2, 3), range(2), "12"]:
                self.fails("row", -1, called, 8, 2, [], thing)
            for thing in no_integers():
                self.fails("row", -1, called, 8, 2, [(1, 2)], (1, thing))

    def test_errors_come_in_the_order_of_the_parameters(self):
        for called in (echelon, count, kernel, generators, picked):
            self.fails("width", -1, called, 0, -1, None)
            self.fails("size", -1, called, 8, -1, None)
        for called in (is_in, coefficients):
            self.fails("width", -1, called, 0, -1, None, None)
            self.fails("size", -1, called, 8, -1, None, None)
            self.fails("rows", -1, called, 8, 2, None, None)
            self.fails("rows", 0, called, 8, 2, [(1,)], None)
        self.fails("width", -1, meet, 0, -1, None, None)
        self.fails("size", -1, meet, 8, -1, None, None)
        self.fails("one", -1, meet, 8, 2, None, None)
        self.fails("one", 1, meet, 8, 2, [(1, 2), None], None)
        self.fails("other", -1, meet, 8, 2, [(1, 2)], None)
        self.fails("width", -1, smith, 0, None)


class GeneralRulesTest(unittest.TestCase):

    ROWS = [(4, 3), (2, -2), (10 ** 30, 8)]

    def results(self, rows):
        return [echelon(4, 2, rows), count(4, 2, rows), kernel(4, 2, rows), meet(4, 2, rows, rows),
                generators(4, 2, rows), picked(4, 2, rows), smith(4, rows), is_in(4, 2, rows, rows[0]),
                coefficients(4, 2, rows, rows[0])]

    def test_lists_and_tuples_give_equal_results(self):
        lists = [list(row) for row in self.ROWS]
        for rows in (lists, tuple(lists), tuple(self.ROWS)):
            self.assertEqual(self.results(rows), self.results(self.ROWS))

    def test_by_name(self):
        rows = self.ROWS
        self.assertEqual([
            echelon(rows=rows, size=2, width=4), count(rows=rows, size=2, width=4),
            kernel(rows=rows, size=2, width=4), meet(other=rows, one=rows, size=2, width=4),
            generators(rows=rows, size=2, width=4), picked(rows=rows, size=2, width=4), smith(table=rows, width=4),
            is_in(row=rows[0], rows=rows, size=2, width=4), coefficients(row=rows[0], rows=rows, size=2, width=4),
        ], self.results(rows))

    def test_kinds_of_values(self):
        kinds = [type(result) for result in self.results(self.ROWS)]
        self.assertEqual(kinds, [list, int, list, list, int, list, list, bool, tuple])
        for result in (echelon(4, 2, [[4, 3]]), kernel(4, 2, [[4, 3]]), meet(4, 2, [[4, 3]], [[4, 3]])):
            self.assertEqual({type(row) for row in result}, {tuple})

    def test_arguments_stay_as_they_were(self):
        rows = [[4, 3], [2, -2], [10 ** 30, 8]]
        before = copy.deepcopy(rows)
        self.results(rows)
        self.assertEqual(rows, before)

    def test_returned_lists_are_new(self):
        first = self.results(self.ROWS)
        for result in first:
            if isinstance(result, list):
                result.append(None)
        for again, result in zip(self.results(self.ROWS), first):
            if isinstance(again, list):
                self.assertEqual(again, result[:-1])

    def test_later_changes_have_no_effect(self):
        rows = [[1, 0], [0, 1]]
        found = echelon(8, 2, rows)
        rows[0][0] = 5
        self.assertEqual(found, [(1, 0), (0, 1)])


if __name__ == "__main__":
    unittest.main()
