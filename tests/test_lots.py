"""Points 13.1 to 13.5, and 0.6 to 0.10 as far as they speak of them: pairorder/lots.py."""

import itertools
import unittest

from pairorder.errors import InvalidBound, LimitExceeded
from pairorder.kinds import KINDS
from pairorder.lots import by_columns, by_price, by_rows, is_monge, leave_outs
from pairorder.nexts import has_order
from pairorder.orders import Order
from pairorder.right import faults, is_right
from pairorder.tables import Table
from plain import is_orderable, pairs_of, small_tables, some_rows
from values import GREAT, WRONG_KINDS, Checks

STUCK_ROWS = [[0, 0, None], [None, 0, 0], [0, None, 0]]


def lines_of(rows):
    return [("stock", i) for i in range(len(rows))] + [("wish", j) for j in range(len(rows[0]))]


def lots_of(rows):
    """Every lot, those with fewer lines first, and then in ascending order."""
    lines = lines_of(rows)
    every = [list(lot) for many in range(len(lines) + 1) for lot in itertools.combinations(lines, many)]
    return [lot for lot in every if sum(word == "stock" for word, _ in lot) < len(rows)
            and sum(word == "wish" for word, _ in lot) < len(rows[0])]


def without(rows, lot):
    return [[price for j, price in enumerate(row) if ("wish", j) not in lot]
            for i, row in enumerate(rows) if ("stock", i) not in lot]


def enough_lots(rows, kind):
    return [lot for lot in lots_of(rows) if is_orderable(without(rows, lot), kind)]


def minimal_lots(rows, kind):
    enough = enough_lots(rows, kind)
    return [lot for lot in enough if not any(set(other) < set(lot) for other in enough)]


def plain_is_monge(rows):
    """For all stocks and wishes, not for neighbours only; that is the same."""
    if None in [price for row in rows for price in row]:
        return False
    return all(rows[i][j] + rows[r][s] <= rows[i][s] + rows[r][j]
               for i, r in itertools.combinations(range(len(rows)), 2)
               for j, s in itertools.combinations(range(len(rows[0])), 2))


class LeaveOuts(Checks):
    def test_the_example(self):
        self.assertEqual(leave_outs(Table([[0, 4], [4, 10]]), kind="any"),
                         [[("stock", 0)], [("stock", 1)], [("wish", 0)], [("wish", 1)]])

    def test_against_all_lots(self):
        """Point 13.1."""
        several = 0
        for rows in small_tables(35, 8) + [STUCK_ROWS] + [some_rows(seed, 3, 3, barred=0.15) for seed in range(8)]:
            for kind in KINDS:
                plain = minimal_lots(rows, kind)
                self.assertEqual(leave_outs(Table(rows), kind=kind), plain)
                several += len({len(lot) for lot in plain}) > 1
        self.assertGreater(several, 3)

    def test_8_lines(self):
        for rows in ([some_rows(seed, 4, 4, -5, 5, 0.1) for seed in range(2)]
                     + [some_rows(5, 2, 6, -5, 5, 0.1), some_rows(6, 6, 2), some_rows(3, 3, 5)]):
            for kind in KINDS:
                self.assertEqual(leave_outs(Table(rows), kind=kind), minimal_lots(rows, kind))
        for rows in ([[3, 1, None, 2, 5, 5, 0]], [[3], [1], [None], [2], [5], [5], [0]]):
            for kind in KINDS:
                self.assertEqual(leave_outs(Table(rows), kind=kind), [[]])
        stuck = [row + [None] for row in STUCK_ROWS] + [[None] * 4]
        self.assertEqual(leave_outs(Table(stuck)), minimal_lots(stuck, "even"))

    def test_many_lines_to_leave_out(self):
        cyclic = [[0, 0, None, None], [None, 0, 0, None], [None, None, 0, 0], [0, None, None, 0]]
        self.assertEqual(leave_outs(Table(cyclic)), [[line] for line in lines_of(cyclic)])
        two = [[4, 0, None, None], [0, 4, None, None], [None, None, 0, 4], [None, None, 4, 0]]
        for kind in KINDS:
            self.assertEqual(leave_outs(Table(two), kind=kind), minimal_lots(two, kind))
        knots = [[0, 4, None, None], [4, 10, None, None], [None, None, 0, 4], [None, None, 4, 10]]
        found = leave_outs(Table(knots), kind="any")
        self.assertEqual(found, minimal_lots(knots, "any"))
        self.assertEqual({len(lot) for lot in found}, {2})
        self.assertEqual(found[0], [("stock", 0), ("stock", 2)])

    def test_a_table_with_a_right_order(self):
        """Point 13.2, its second fact."""
        for rows in small_tables(30, 9):
            for kind in KINDS:
                self.assertIs(leave_outs(Table(rows), kind=kind) == [[]], has_order(Table(rows), kind=kind))

    def test_a_lot_that_contains_an_enough_one_is_enough(self):
        """Point 13.2, its first fact."""
        for rows in [STUCK_ROWS, [[0, 4], [4, 10]], some_rows(3, 3, 3), some_rows(4, 2, 4)]:
            for kind in KINDS:
                enough = enough_lots(rows, kind)
                for lot in lots_of(rows):
                    contains = any(set(other) <= set(lot) for other in leave_outs(Table(rows), kind=kind))
                    self.assertIs(contains, lot in enough)

    def test_the_smallest_tables(self):
        for rows in ([[5]], [[None]], [[None, None]], [[None], [None]], [[1, 2]]):
            for kind in KINDS:
                self.assertEqual(leave_outs(Table(rows), kind=kind), [[]])

    def test_great_numbers(self):
        rows = [[GREAT - 5, GREAT - 1], [GREAT - 1, GREAT]]
        self.assertEqual(leave_outs(Table(rows), kind="any"), minimal_lots(rows, "any"))

    def test_the_limit_of_8_lines(self):
        for many, wide in [(1, 8), (8, 1), (4, 5), (5, 4), (2, 7), (8, 8)]:
            for price in (0, None, GREAT):
                self.refuses(LimitExceeded, {"limit": 8}, leave_outs, Table.filled(many, wide, price))
                self.refuses(LimitExceeded, {"limit": 8}, leave_outs, Table.filled(many, wide, price), kind="any")

    def test_the_kind_comes_before_the_limit(self):
        for table in (Table([[0, 4], [4, 10]]), Table.filled(4, 5, 0), Table.filled(8, 8, None)):
            for kind in WRONG_KINDS:
                self.refuses(InvalidBound, {"name": "kind"}, leave_outs, table, kind=kind)

    def test_the_default_is_even(self):
        self.assertEqual(leave_outs(Table([[0, 4], [4, 10]])), [[]])
        self.assertEqual(leave_outs(Table(STUCK_ROWS)), leave_outs(Table(STUCK_ROWS), kind="even"))
        self.assertEqual(leave_outs(kind="even", table=Table([[7]])), [[]])
        with self.assertRaises(TypeError):
            leave_outs(Table([[7]]), "any")

    def test_the_returned_lists_are_new_ones(self):
        table = Table(STUCK_ROWS)
        first = leave_outs(table)
        first[0].clear()
        first.clear()
        self.assertEqual(leave_outs(table), minimal_lots(STUCK_ROWS, "even"))
        fine = Table([[1]])
        leave_outs(fine)[0].append(("stock", 0))
        self.assertEqual(leave_outs(fine), [[]])


class Monge(Checks):
    def test_against_all_stocks_and_wishes(self):
        monge = 0
        for seed in range(120):
            rows = some_rows(seed, 1 + seed % 3, 1 + seed // 3 % 4, -1 - seed % 2, 1, 0.1 * (seed % 2))
            self.assertIs(is_monge(Table(rows)), plain_is_monge(rows))
            monge += plain_is_monge(rows) and len(rows) > 1 < len(rows[0])
        for seed in range(20):
            chance = some_rows(seed, 4, 4, -3, 0, 0.0)
            rows = [[sum(chance[a][b] for a in range(i) for b in range(j)) for j in range(5)] for i in range(5)]
            self.assertIs(is_monge(Table(rows)), True)
            rows[seed % 5][2] += 4
            self.assertIs(is_monge(Table(rows)), plain_is_monge(rows))
        self.assertGreater(monge, 5)

    def test_one_line(self):
        self.assertIs(is_monge(Table([[5]])), True)
        self.assertIs(is_monge(Table([[5, -9, 7, 7, 0, 3, 2, 8]])), True)
        self.assertIs(is_monge(Table([[5], [-9], [7]])), True)
        self.assertIs(is_monge(Table([[5, None]])), False)
        self.assertIs(is_monge(Table([[5], [None]])), False)
        self.assertIs(is_monge(Table([[None]])), False)

    def test_equal_sums_are_monge(self):
        self.assertIs(is_monge(Table([[1, 2], [3, 4]])), True)
        self.assertIs(is_monge(Table([[2, 2], [3, 4]])), False)
        self.assertIs(is_monge(Table([[1, 2], [3, 3]])), True)
        self.assertIs(is_monge(Table([[GREAT, -GREAT], [-GREAT, GREAT]])), False)
        self.assertIs(is_monge(Table([[-GREAT, GREAT], [GREAT, -GREAT]])), True)

    def test_any_cell_may_spoil_it(self):
        rows = [[-i * j for j in range(8)] for i in range(8)]
        self.assertIs(is_monge(table=Table(rows)), True)
        for i in range(8):
            for j in range(8):
                self.assertIs(is_monge(Table(rows).with_price((i, j), None)), False)
                if 0 < i < 7 and 0 < j < 7:
                    self.assertIs(is_monge(Table(rows).with_price((i, j), 2 - i * j)), False)
                    self.assertIs(is_monge(Table(rows).with_price((i, j), -2 - i * j)), False)
                    self.assertIs(is_monge(Table(rows).with_price((i, j), 1 - i * j)), True)

    def test_orders_by_rows_and_by_columns(self):
        """Point 13.4."""
        both = [0, 0]
        for seed in range(150):
            rows = some_rows(seed, 1 + seed % 4, 1 + seed // 4 % 4, -1, 1, 0.0)
            table = Table(rows)
            self.assertIs(is_right(table, by_rows(table)), is_monge(table))
            self.assertIs(is_right(table, by_columns(table)), is_monge(table))
            both[is_monge(table)] += 1
        self.assertGreater(min(both), 20)


class Simple(Checks):
    def test_against_sorting(self):
        for rows in small_tables(40, 9) + [some_rows(seed, 8, 8) for seed in range(4)]:
            table, pairs = Table(rows), pairs_of(rows)
            for order in (by_rows(table), by_columns(table), by_price(table)):
                self.assertIsInstance(order, Order)
            self.assertEqual(by_rows(table).pairs(), sorted(pairs))
            self.assertEqual(by_columns(table).pairs(), sorted(pairs, key=lambda pair: (pair[1], pair[0])))
            self.assertEqual(by_price(table).pairs(), sorted(pairs, key=lambda pair: (rows[pair[0]][pair[1]], pair)))

    def test_by_price(self):
        self.assertEqual(by_price(Table([[4, None, 7], [2, 4, -5]])).pairs(), [(1, 2), (1, 0), (0, 0), (1, 1), (0, 2)])
        self.assertEqual(by_price(Table([[GREAT, GREAT - 1], [-GREAT, 1 - GREAT]])).pairs(),
                         [(1, 0), (1, 1), (0, 1), (0, 0)])
        self.assertEqual(by_price(Table.filled(8, 8, 3)).pairs(), [(i, j) for i in range(8) for j in range(8)])

    def test_a_table_without_pairs_and_tables_of_one_line(self):
        for work in (by_rows, by_columns, by_price):
            self.assertEqual(work(Table.filled(3, 2, None)), Order([]))
            self.assertEqual(work(table=Table([[5]])), Order([(0, 0)]))
        self.assertEqual(by_rows(Table([[3, 1, None, 2]])).pairs(), [(0, 0), (0, 1), (0, 3)])
        self.assertEqual(by_columns(Table([[3, 1, None, 2]])).pairs(), [(0, 0), (0, 1), (0, 3)])
        self.assertEqual(by_price(Table([[3, 1, None, 2]])).pairs(), [(0, 1), (0, 3), (0, 0)])
        self.assertEqual(by_columns(Table([[3], [1], [2]])).pairs(), [(0, 0), (1, 0), (2, 0)])
        self.assertEqual(by_columns(Table([[1, 2, 3], [4, 5, None]])).pairs(), [(0, 0), (1, 0), (0, 1), (1, 1), (0, 2)])

    def test_by_price_has_no_column_and_no_row(self):
        """Point 13.5."""
        crosses = 0
        for rows in small_tables(60, 9) + [some_rows(seed, 6, 7, -3, 3) for seed in range(6)]:
            found = faults(Table(rows), by_price(Table(rows)), kind="any")
            self.assertEqual([fault for fault in found if fault[0] != "cross"], [])
            crosses += len(found)
        self.assertGreater(crosses, 10)

    def test_each_order_is_a_new_one_and_the_table_stays(self):
        rows = [[4, None], [1, 2]]
        table = Table(rows)
        for work in (by_rows, by_columns, by_price):
            work(table).pairs().clear()
            self.assertEqual(len(work(table)), 3)
        self.assertEqual(table.rows(), rows)


if __name__ == "__main__":
    unittest.main()
