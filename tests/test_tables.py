"""Points 2.1 to 2.10, and 0.3 to 0.12 as far as they speak of tables: pairorder/tables.py."""

import operator
import unittest

from pairorder.amounts import Amounts
from pairorder.errors import InvalidBound, InvalidPair, InvalidTable
from pairorder.orders import Order
from pairorder.tables import Table
from values import GREAT, NOT_INTEGERS, NOT_LISTS, NOT_TWOS, Checks

ROWS = [[4, None, 7], [2, 3, -5]]
# None stands for a barred cell, so it is a wrong count but not a wrong price.
NOT_PRICES = [value for value in NOT_INTEGERS if value is not None]


def sample():
    return Table([[4, None, 7], [2, 3, -5]])


class Creating(Checks):
    def test_every_size_from_1_to_8(self):
        for many in range(1, 9):
            for wide in range(1, 9):
                rows = [[10 * i + j for j in range(wide)] for i in range(many)]
                table = Table(rows)
                self.assertEqual((table.stocks(), table.wishes(), len(table)), (many, wide, many * wide))
                self.assertEqual(table.rows(), rows)

    def test_great_negative_and_barred_entries(self):
        rows = [[GREAT, -GREAT, None], [0, -1, 1], [None, None, None]]
        table = Table(rows)
        self.assertEqual(table.rows(), rows)
        self.assertEqual(len(table), 5)

    def test_all_cells_barred(self):
        for many, wide in [(1, 1), (2, 3), (8, 8)]:
            table = Table([[None] * wide for _ in range(many)])
            self.assertEqual((len(table), table.pairs(), table[0, 0]), (0, [], None))
            self.assertEqual(table.rows(), [[None] * wide] * many)

    def test_what_is_not_a_list_of_1_to_8_rows(self):
        for rows in NOT_LISTS + [[], [[1]] * 9, [None] * 9, [[1], [1, 2]] * 5, ([1], [2])]:
            self.refuses(InvalidTable, {"at": -1}, Table, rows)

    def test_a_row_that_is_not_a_list(self):
        for row in NOT_LISTS:
            for at in range(3):
                rows = [[1, 2], [3, 4], [5, 6]]
                rows[at] = row
                self.refuses(InvalidTable, {"at": at}, Table, rows)

    def test_the_length_of_the_rows(self):
        for row in ([], [1] * 9, [None] * 9, [1] * 64):
            self.refuses(InvalidTable, {"at": 0}, Table, [row])
            self.refuses(InvalidTable, {"at": 0}, Table, [row, row, row])
        for at in (1, 2, 3):
            for row in ([], [1], [1, 2, 3], [None] * 9):
                rows = [[1, 2] for _ in range(4)]
                rows[at] = row
                self.refuses(InvalidTable, {"at": at}, Table, rows)

    def test_an_entry_that_is_neither_an_integer_nor_none(self):
        for entry in NOT_PRICES:
            for i in range(3):
                for j in range(3):
                    rows = [[1, None, 3], [4, 5, None], [None, 8, 9]]
                    rows[i][j] = entry
                    self.refuses(InvalidTable, {"at": i}, Table, rows)
            self.refuses(InvalidTable, {"at": 0}, Table, [[entry]])

    def test_the_first_wrong_row_counts(self):
        self.refuses(InvalidTable, {"at": 1}, Table, [[1, 2], [3], [True, 4]])
        self.refuses(InvalidTable, {"at": 1}, Table, [[1, 2], [3, "4"], None])
        self.refuses(InvalidTable, {"at": 2}, Table, [[1], [2], (3,), [4, 5], [6.0]])
        self.refuses(InvalidTable, {"at": 0}, Table, [[True], [1, 2]])
        self.refuses(InvalidTable, {"at": 0}, Table, [[], []])
        self.refuses(InvalidTable, {"at": 0}, Table, [None, None])
        self.refuses(InvalidTable, {"at": 0}, Table, [[1] * 9, [1]])

    def test_the_example(self):
        self.refuses(InvalidTable, {"at": 1}, Table, [[1, 2], [3]])

    def test_by_name(self):
        self.assertEqual(Table(rows=[[1]]).rows(), [[1]])

    def test_later_changes_of_the_passed_rows_have_no_effect(self):
        rows = [[1, None], [3, 4]]
        table = Table(rows)
        rows[0][0] = None
        rows[0].append(5)
        rows[1] = [7, 8]
        rows.append([9, 9])
        self.assertEqual(table.rows(), [[1, None], [3, 4]])
        self.assertEqual(table.pairs(), [(0, 0), (1, 0), (1, 1)])
        self.assertEqual((table[0, 0], len(table)), (1, 3))

    def test_one_list_in_several_rows(self):
        row = [1, 2]
        table = Table([row, row])
        row[0] = None
        self.assertEqual(table.rows(), [[1, 2], [1, 2]])
        self.assertEqual(table.with_price((0, 0), 9).rows(), [[9, 2], [1, 2]])

    def test_the_passed_rows_stay_as_they_are(self):
        rows = [[1, None], [3, 4]]
        table = Table(rows)
        table.with_price((0, 0), 5)
        table.without([0], [0])
        self.assertEqual(rows, [[1, None], [3, 4]])
        wrong = [[1, 2], [3, True]]
        self.refuses(InvalidTable, {"at": 1}, Table, wrong)
        self.assertEqual(repr(wrong), "[[1, 2], [3, True]]")


class Filled(Checks):
    def test_prices(self):
        for price in (None, 0, 1, -1, 7, GREAT, -GREAT):
            for many, wide in [(1, 1), (1, 8), (8, 1), (8, 8), (2, 3)]:
                table = Table.filled(many, wide, price)
                self.assertIsInstance(table, Table)
                self.assertEqual(table.rows(), [[price] * wide] * many)
                self.assertEqual(len(table), 0 if price is None else many * wide)

    def test_rows_of_their_own(self):
        rows = Table.filled(2, 2, 1).rows()
        rows[0][0] = 5
        self.assertEqual(rows, [[5, 1], [1, 1]])

    def test_wrong_counts(self):
        for count in NOT_INTEGERS + [0, -1, 9, 64, GREAT, -GREAT]:
            self.refuses(InvalidBound, {"name": "stock_count"}, Table.filled, count, 1, 0)
            self.refuses(InvalidBound, {"name": "wish_count"}, Table.filled, 1, count, 0)

    def test_wrong_prices(self):
        for price in NOT_PRICES:
            self.refuses(InvalidBound, {"name": "price"}, Table.filled, 2, 2, price)

    def test_the_arguments_are_checked_from_left_to_right(self):
        self.refuses(InvalidBound, {"name": "stock_count"}, Table.filled, 0, 0, "0")
        self.refuses(InvalidBound, {"name": "stock_count"}, Table.filled, True, 9, 0)
        self.refuses(InvalidBound, {"name": "stock_count"}, Table.filled, None, 1, True)
        self.refuses(InvalidBound, {"name": "wish_count"}, Table.filled, 1, True, "0")
        self.refuses(InvalidBound, {"name": "wish_count"}, Table.filled, 8, 9, 1.5)

    def test_by_names(self):
        self.assertEqual(Table.filled(price=4, wish_count=3, stock_count=1).rows(), [[4, 4, 4]])


class Cells(Checks):
    def test_the_index(self):
        table = sample()
        for i in range(2):
            for j in range(3):
                self.assertEqual(table[i, j], ROWS[i][j])
                self.assertEqual(table[(i, j)], ROWS[i][j])
        self.assertIsNone(table[0, 1])

    def test_cells_and_pairs(self):
        table = sample()
        for i in range(-3, 10):
            for j in range(-3, 10):
                inside = 0 <= i <= 1 and 0 <= j <= 2
                self.assertIs(table.has_cell((i, j)), inside)
                self.assertIs((i, j) in table, inside and (i, j) != (0, 1))

    def test_numbers_outside(self):
        for table in (Table([[1]]), sample(), Table.filled(8, 8, 0), Table.filled(2, 2, None)):
            many, wide = table.stocks(), table.wishes()
            for value in [(-1, 0), (0, -1), (-1, -1), (many, 0), (0, wide), (many, wide), (-many, 0), (0, -wide),
                          (8, 8), (GREAT, 0), (0, GREAT), (-GREAT, 0), (0, -GREAT)]:
                self.refuses(InvalidPair, {"pair": value}, operator.getitem, table, value)
                self.assertIs(table.has_cell(value), False)
                self.assertIs(value in table, False)

    def test_both_ends_are_inside(self):
        table = Table.filled(8, 8, 5)
        for value in [(0, 0), (0, 7), (7, 0), (7, 7)]:
            self.assertEqual(table[value], 5)
            self.assertIs(table.has_cell(value), True)
            self.assertIs(value in table, True)

    def test_stocks_and_wishes_are_not_taken_for_each_other(self):
        table = Table.filled(1, 3, 4)
        self.assertEqual(table[0, 2], 4)
        self.assertIs(table.has_cell((0, 2)), True)
        self.assertIs(table.has_cell((2, 0)), False)
        self.refuses(InvalidPair, {"pair": (2, 0)}, operator.getitem, table, (2, 0))

    def test_values_that_are_not_tuples_of_two_integers(self):
        for table in (sample(), Table([[1]]), Table.filled(3, 3, None)):
            for value in NOT_TWOS:
                self.refuses(InvalidPair, {"pair": value}, operator.getitem, table, value)
                self.assertIs(table.has_cell(value), False)
                self.assertIs(value in table, False)

    def test_a_barred_cell_is_a_cell_but_no_pair(self):
        table = Table.filled(2, 2, None)
        self.assertIsNone(table[1, 1])
        self.assertIs(table.has_cell((1, 1)), True)
        self.assertIs((1, 1) in table, False)

    def test_a_price_of_0_is_no_bar(self):
        table = Table([[0]])
        self.assertEqual((table[0, 0], (0, 0) in table, len(table), table.pairs()), (0, True, 1, [(0, 0)]))

    def test_the_error_has_its_own_copy(self):
        inner = [1]
        error = self.refuses(InvalidPair, {"pair": (inner, 0)}, operator.getitem, sample(), (inner, 0))
        inner.append(2)
        self.assertEqual(error.pair, ([1], 0))

    def test_by_name(self):
        self.assertIs(sample().has_cell(value=(1, 2)), True)


class Lists(Checks):
    def test_the_example(self):
        table = sample()
        self.assertEqual([table.pairs(), table[0, 1], (0, 1) in table, len(table)],
                         [[(0, 0), (0, 2), (1, 0), (1, 1), (1, 2)], None, False, 5])
        self.assertEqual(sample().without([], [1]).turned().rows(), [[4, 2], [7, -5]])

    def test_the_pairs_are_ascending_tuples(self):
        pairs = Table.filled(8, 8, 1).pairs()
        self.assertEqual(pairs, [(i, j) for i in range(8) for j in range(8)])
        self.assertTrue(all(pair.__class__ is tuple for pair in pairs))

    def test_returned_lists_are_new_ones(self):
        table = sample()
        rows, pairs = table.rows(), table.pairs()
        rows[0][0] = 99
        rows[1].clear()
        rows.pop()
        pairs.clear()
        self.assertEqual(table.rows(), ROWS)
        self.assertEqual(table.pairs(), [(0, 0), (0, 2), (1, 0), (1, 1), (1, 2)])
        self.assertEqual((table[0, 0], table[1, 2], len(table)), (4, -5, 5))
        self.assertIsNot(table.rows(), table.rows())
        self.assertIsNot(table.rows()[0], table.rows()[0])
        self.assertIsNot(table.pairs(), table.pairs())

    def test_equal_tables(self):
        self.assertIs(sample() == sample(), True)
        self.assertIs(sample() != sample(), False)
        self.assertIs(Table.filled(2, 1, 3) == Table([[3], [3]]), True)
        self.assertIs(Table([[None]]) == Table([[None]]), True)

    def test_tables_that_are_not_equal(self):
        others = [Table([[4, None, 7], [2, 3, 5]]), Table([[4, 0, 7], [2, 3, -5]]), Table([[4, None, 7]]),
                  Table([[None, None, 7], [2, 3, -5]]), Table([[2, 3, -5], [4, None, 7]]), sample().turned(),
                  Table([[4, None], [2, 3]])]
        for other in others:
            self.assertIs(sample() == other, False)
            self.assertIs(sample() != other, True)
        self.assertIs(Table.filled(2, 3, None) == Table.filled(3, 2, None), False)

    def test_iterating_raises_a_type_error(self):
        for table in (sample(), Table([[1]]), Table.filled(2, 2, None)):
            for work in (iter, list, tuple, set, sorted, dict, enumerate, lambda held: [*held],
                         lambda held: [0 for _ in held], lambda held: max(held)):
                with self.assertRaises(TypeError):
                    work(table)

    def test_tables_have_no_sequence(self):
        for work in (operator.lt, operator.le, operator.gt, operator.ge):
            with self.assertRaises(TypeError):
                work(Table([[1]]), Table([[2]]))


class Sums(Checks):
    def test_sum(self):
        one = Table([[1, None, 3], [None, -5, GREAT]])
        other = Table([[10, 20, None], [None, 50, GREAT]])
        self.assertEqual((one + other).rows(), [[11, None, None], [None, 45, 2 * GREAT]])
        self.assertEqual((other + one).rows(), [[11, None, None], [None, 45, 2 * GREAT]])
        self.assertEqual((Table([[0, 0]]) + Table([[0, None]])).rows(), [[0, None]])

    def test_the_summands_stay(self):
        one, other = sample(), Table.filled(2, 3, 1)
        total = one + other
        self.assertEqual((one.rows(), other.rows()), (ROWS, [[1] * 3] * 2))
        self.assertEqual(total.pairs(), one.pairs())
        kept = one
        one += other
        self.assertEqual((one.rows(), kept.rows()), (total.rows(), ROWS))

    def test_what_is_not_a_table_of_the_size(self):
        others = NOT_INTEGERS + NOT_LISTS + [5, ROWS, Order([]), Amounts([1, 1], [1, 1, 1]), Table([[1]]),
                                             Table.filled(3, 2, 0), Table.filled(2, 2, 0), Table.filled(3, 3, 0),
                                             Table.filled(1, 3, 0), Table.filled(6, 1, 0), Table]
        for other in others:
            self.refuses(InvalidTable, {"at": -1}, operator.add, sample(), other)

    def test_multiples(self):
        for k in (1, 2, 7, GREAT):
            expected = [[4 * k, None, 7 * k], [2 * k, 3 * k, -5 * k]]
            self.assertEqual((k * sample()).rows(), expected)
            self.assertEqual((sample() * k).rows(), expected)
        self.assertEqual((3 * Table([[0, None]])).rows(), [[0, None]])

    def test_a_multiple_is_a_new_table(self):
        table = sample()
        self.assertEqual(table * 2, 2 * table)
        self.assertIsNot(table * 1, table)
        self.assertEqual(table * 1, table)
        self.assertEqual(table.rows(), ROWS)

    def test_wrong_factors(self):
        for k in NOT_INTEGERS + [0, -1, -7, -GREAT, "ab", sample(), Order([]), ROWS]:
            self.refuses(InvalidBound, {"name": "times"}, operator.mul, sample(), k)
        for k in NOT_INTEGERS + [0, -1, -7, -GREAT, "ab", Order([]), ROWS]:
            self.refuses(InvalidBound, {"name": "times"}, operator.mul, k, sample())
        for k in (0, -1, True, False):
            self.refuses(InvalidBound, {"name": "times"}, operator.mul, k, Table.filled(2, 2, None))


class Shifted(Checks):
    def test_shifted(self):
        table = sample().shifted([10, -20], [1, 2, 3])
        self.assertEqual(table.rows(), [[15, None, 20], [-17, -15, -22]])
        self.assertEqual(sample().shifted([GREAT, 0], [0, 0, -GREAT]).rows(), [[4 + GREAT, None, 7], [2, 3, -5 - GREAT]])
        self.assertEqual(sample().shifted([0, 0], [0, 0, 0]), sample())
        self.assertEqual(Table([[None, 1]]).shifted([5], [6, 7]).rows(), [[None, 13]])

    def test_by_names(self):
        self.assertEqual(Table([[1]]).shifted(wish_adds=[2], stock_adds=[30]).rows(), [[33]])

    def test_wrong_lists(self):
        for value in NOT_LISTS + [[], [1], [1, 2, 3], [[1], [2]], [1, [2]]]:
            self.refuses(InvalidBound, {"name": "stock_adds"}, sample().shifted, value, [0, 0, 0])
        for value in NOT_LISTS + [[], [1], [1, 2], [1, 2, 3, 4], [[1, 2, 3]]]:
            self.refuses(InvalidBound, {"name": "wish_adds"}, sample().shifted, [0, 0], value)

    def test_wrong_entries(self):
        table = Table.filled(3, 3, 0)
        for entry in NOT_INTEGERS:
            for at in range(3):
                adds = [0, 0, 0]
                adds[at] = entry
                self.refuses(InvalidBound, {"name": "stock_adds"}, table.shifted, adds, [0, 0, 0])
                self.refuses(InvalidBound, {"name": "wish_adds"}, table.shifted, [0, 0, 0], adds)

    def test_the_first_argument_counts(self):
        self.refuses(InvalidBound, {"name": "stock_adds"}, sample().shifted, [0, None], [0])
        self.refuses(InvalidBound, {"name": "stock_adds"}, sample().shifted, [0], None)
        self.refuses(InvalidBound, {"name": "stock_adds"}, sample().shifted, [0, 0, 0], [0, 0])

    def test_the_lists_and_the_table_stay(self):
        table, adds, more = sample(), [1, 2], [3, 4, 5]
        shifted = table.shifted(adds, more)
        adds[0] = more[0] = 100
        adds.clear()
        self.assertEqual(shifted.rows(), [[8, None, 13], [7, 9, 2]])
        self.assertEqual(table.rows(), ROWS)
        self.assertEqual(more, [100, 4, 5])


class WithPrice(Checks):
    def test_each_cell(self):
        for i in range(2):
            for j in range(3):
                for price in (0, -1, None, GREAT, -GREAT):
                    expected = [list(row) for row in ROWS]
                    expected[i][j] = price
                    table = sample().with_price((i, j), price)
                    self.assertEqual(table.rows(), expected)
                    self.assertEqual((i, j) in table, price is not None)
                    self.assertEqual(table[i, j], price)

    def test_barred_before_and_after(self):
        table = sample().with_price((0, 1), 6)
        self.assertEqual((len(table), table.pairs()[1]), (6, (0, 1)))
        table = table.with_price((0, 1), None).with_price((0, 0), None)
        self.assertEqual(table.pairs(), [(0, 2), (1, 0), (1, 1), (1, 2)])

    def test_the_table_stays(self):
        table = sample()
        table.with_price((0, 0), None)
        self.assertEqual((table.rows(), len(table)), (ROWS, 5))

    def test_by_names(self):
        self.assertEqual(Table([[1]]).with_price(price=5, pair=(0, 0)).rows(), [[5]])

    def test_wrong_cells(self):
        for value in NOT_TWOS + [(-1, 0), (0, -1), (2, 0), (0, 3), (GREAT, 0), (1, -GREAT)]:
            self.refuses(InvalidPair, {"pair": value}, sample().with_price, value, 1)

    def test_wrong_prices(self):
        for price in NOT_PRICES:
            self.refuses(InvalidBound, {"name": "price"}, sample().with_price, (0, 0), price)
            self.refuses(InvalidBound, {"name": "price"}, sample().with_price, (0, 1), price)

    def test_the_cell_is_checked_before_the_price(self):
        self.refuses(InvalidPair, {"pair": (2, 0)}, sample().with_price, (2, 0), "1")
        self.refuses(InvalidPair, {"pair": None}, sample().with_price, None, True)


class Without(Checks):
    def test_every_choice(self):
        table = Table([[10 * i + j if (i + j) % 3 else None for j in range(4)] for i in range(3)])
        for stocks in ([], [0], [1], [2], [0, 1], [0, 2], [1, 2]):
            for wishes in ([], [0], [3], [1, 2], [0, 1, 3], [1, 2, 3]):
                expected = [[table[i, j] for j in range(4) if j not in wishes] for i in range(3) if i not in stocks]
                self.assertEqual(table.without(stocks, wishes).rows(), expected)

    def test_nothing_left_out(self):
        table = sample()
        self.assertEqual(table.without([], []), table)
        self.assertIsNot(table.without([], []), table)

    def test_of_8_lines_one_remains(self):
        table = Table([[10 * i + j for j in range(8)] for i in range(8)])
        self.assertEqual(table.without([0, 1, 2, 3, 4, 5, 6], [1, 2, 3, 4, 5, 6, 7]).rows(), [[70]])

    def test_at_least_one_line_remains(self):
        self.refuses(InvalidBound, {"name": "stocks"}, sample().without, [0, 1], [])
        self.refuses(InvalidBound, {"name": "wishes"}, sample().without, [], [0, 1, 2])
        self.refuses(InvalidBound, {"name": "stocks"}, Table([[1]]).without, [0], [])
        self.refuses(InvalidBound, {"name": "wishes"}, Table([[1]]).without, [], [0])
        self.refuses(InvalidBound, {"name": "stocks"}, Table.filled(8, 8, 1).without, list(range(8)), [])

    def test_wrong_lists(self):
        table = Table.filled(4, 4, 1)
        wrong = NOT_LISTS + [[4], [-1], [0, 4], [-1, 0], [1, 0], [0, 0], [2, 2, 3], [0, 2, 1], [0, 1, 1], [0, 1, 2, 3],
                             [[0]], [0, [1]], [(0,)], [0, 1, 2, 3, 4], [GREAT], [-GREAT, 1], [3, 2, 1], [0, 1, 2, 2]]
        for value in wrong:
            self.refuses(InvalidBound, {"name": "stocks"}, table.without, value, [])
            self.refuses(InvalidBound, {"name": "wishes"}, table.without, [], value)

    def test_wrong_entries(self):
        table = Table.filled(5, 5, 1)
        for entry in NOT_INTEGERS:
            for at in range(3):
                lines = [0, 1, 2]
                lines[at] = entry
                self.refuses(InvalidBound, {"name": "stocks"}, table.without, lines, [])
                self.refuses(InvalidBound, {"name": "wishes"}, table.without, [], lines)

    def test_the_numbers_of_the_two_lists_are_not_mixed_up(self):
        self.refuses(InvalidBound, {"name": "stocks"}, sample().without, [2], [])
        self.assertEqual(sample().without([], [2]).rows(), [[4, None], [2, 3]])

    def test_the_first_argument_counts(self):
        self.refuses(InvalidBound, {"name": "stocks"}, sample().without, [0, 1], [0, 1, 2])
        self.refuses(InvalidBound, {"name": "stocks"}, sample().without, [1, 0], None)
        self.refuses(InvalidBound, {"name": "stocks"}, sample().without, (0,), [5])

    def test_by_names(self):
        self.assertEqual(sample().without(wishes=[0], stocks=[0]).rows(), [[3, -5]])

    def test_the_lists_and_the_table_stay(self):
        table, stocks, wishes = sample(), [0], [1]
        rest = table.without(stocks, wishes)
        stocks.append(1)
        wishes.clear()
        self.assertEqual((rest.rows(), table.rows()), ([[2, -5]], ROWS))


class Turned(Checks):
    def test_turned(self):
        table = sample()
        turned = table.turned()
        self.assertEqual(turned.rows(), [[4, 2], [None, 3], [7, -5]])
        for i in range(2):
            for j in range(3):
                self.assertEqual(turned[j, i], table[i, j])
        self.assertEqual((turned.stocks(), turned.wishes(), len(turned)), (3, 2, 5))
        self.assertEqual(turned.turned(), table)
        self.assertEqual(table.rows(), ROWS)

    def test_one_row_and_one_column(self):
        self.assertEqual(Table([[1, 2, 3]]).turned().rows(), [[1], [2], [3]])
        self.assertEqual(Table([[1], [None]]).turned().rows(), [[1, None]])


class Unchanged(Checks):
    def test_refused_calls_change_nothing(self):
        table = sample()
        for work in (lambda: table[9, 9], lambda: table + 1, lambda: 0 * table, lambda: table * "2",
                     lambda: table.shifted([1, 1], [1, 1]), lambda: table.with_price((0, 0), True),
                     lambda: table.with_price((5, 0), 1), lambda: table.without([0], [0, 1, 2])):
            with self.assertRaises(ArithmeticError):
                work()
            self.assertEqual(table, sample())
            self.assertEqual((table.pairs(), len(table)), (sample().pairs(), 5))

    def test_an_item_is_not_assigned(self):
        table = sample()
        with self.assertRaises(TypeError):
            table[0, 0] = 5
        self.assertEqual(table, sample())


if __name__ == "__main__":
    unittest.main()
