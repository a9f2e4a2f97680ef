"""Points 9.1 to 9.3, and 0.4 to 0.10 as far as they speak of them: pairorder/counting.py."""

import itertools
import math
import random
import unittest

from pairorder.counting import count, number_of, order_at
from pairorder.errors import InvalidBound, InvalidOrder, LimitExceeded, NotRight
from pairorder.kinds import KINDS
from pairorder.nexts import has_order, least_order, may_stand
from pairorder.orders import Order
from pairorder.right import first_fault, is_right
from pairorder.tables import Table
from plain import pairs_of, plain_faults, right_orders, small_tables, some_rows
from values import GREAT, NOT_INTEGERS, WRONG_KINDS, Checks

STUCK = Table([[0, 0, None], [None, 0, 0], [0, None, 0]])
# 12 pairs each: a whole table, one line, one stock and one wish, and pairs far apart in the greatest table.
TWELVES = [
    [[0] * 4] * 3, [[0] * 3] * 4, [[0] * 6] * 2, [[0] * 2] * 6,
    [[0 if i == 2 or j == 1 else None for j in range(7)] for i in range(6)],
    [[0 if i == j or (i + j == 7 and i < 4) else None for j in range(8)] for i in range(8)],
]


def thirteen(price=0):
    return Table([[price] * 7, [price] * 6 + [None]])


def ways(table, kind):
    """Point 9.3, said again: the number of right orders by the pairs that may stand first, and so on."""
    known = {}

    def ways_after(placed):
        if placed not in known:
            free = may_stand(table, sorted(placed), kind=kind)
            known[placed] = sum(ways_after(placed | {pair}) for pair in free) if len(placed) < len(table) else 1
        return known[placed]

    return ways_after(frozenset())


class Counting(Checks):
    def test_the_examples(self):
        table = Table([[1, 2], [2, 1]])
        self.assertEqual(count(table), 12)
        self.assertEqual(number_of(table, Order([(1, 1), (1, 0), (0, 1), (0, 0)])), 11)
        self.assertEqual(order_at(table, 11).pairs(), [(1, 1), (1, 0), (0, 1), (0, 0)])

    def test_against_all_orders(self):
        """Points 9.2 and 9.3."""
        several = none = 0
        for rows in small_tables(45, 6):
            table = Table(rows)
            for kind in KINDS:
                plain = right_orders(rows, kind)
                self.assertEqual(count(table, kind=kind), len(plain))
                self.assertEqual(ways(table, kind), len(plain))
                self.assertIs(has_order(table, kind=kind), len(plain) > 0)
                for number in range(0, len(plain), 1 + len(plain) // 40):
                    order = order_at(table, number, kind=kind)
                    self.assertIsInstance(order, Order)
                    self.assertEqual(order.pairs(), plain[number])
                    self.assertEqual(number_of(table, Order(plain[number]), kind=kind), number)
                self.refuses(InvalidBound, {"name": "number"}, order_at, table, len(plain), kind=kind)
                if plain:
                    self.assertEqual(order_at(table, 0, kind=kind), least_order(table, kind=kind))
                    self.assertEqual(order_at(table, len(plain) - 1, kind=kind).pairs(), plain[-1])
                several += 1 < len(plain) < math.factorial(len(table))
                none += not plain
        self.assertGreater(several, 20)
        self.assertGreater(none, 10)

    def test_the_default_is_even(self):
        table = Table([[4, 1], [2, 3]])
        order = Order([(1, 0), (1, 1), (0, 1), (0, 0)])
        self.assertEqual([count(table, kind=kind) for kind in KINDS], [12, 6, 6, 4])
        self.assertEqual(count(table), 12)
        self.assertEqual(order_at(table, 7), order_at(table, 7, kind="even"))
        self.assertEqual(number_of(table, order), number_of(table, order, kind="even"))

    def test_a_table_without_pairs(self):
        for table in (Table([[None]]), Table.filled(8, 8, None), Table.filled(1, 3, None)):
            for kind in KINDS:
                self.assertEqual(count(table, kind=kind), 1)
                self.assertEqual(order_at(table, 0, kind=kind), Order([]))
                self.assertEqual(number_of(table, Order([]), kind=kind), 0)
                self.refuses(InvalidBound, {"name": "number"}, order_at, table, 1, kind=kind)
                self.refuses(InvalidOrder, {"at": -1}, number_of, table, Order([(0, 0)]), kind=kind)

    def test_one_line(self):
        self.assertEqual([count(Table([[3, 1, 2]]), kind=kind) for kind in KINDS], [6, 6, 1, 1])
        self.assertEqual([count(Table([[3], [1], [2]]), kind=kind) for kind in KINDS], [6, 1, 6, 1])
        self.assertEqual(order_at(Table([[3, 1, 2]]), 0, kind="wish").pairs(), [(0, 1), (0, 2), (0, 0)])
        self.assertEqual(order_at(Table([[3, 1, 2]]), 4).pairs(), [(0, 2), (0, 0), (0, 1)])

    def test_no_right_order(self):
        for kind in KINDS:
            self.assertEqual(count(STUCK, kind=kind), 0)
            for number in (0, 1, -1):
                self.refuses(InvalidBound, {"name": "number"}, order_at, STUCK, number, kind=kind)
            fault = first_fault(STUCK, Order(STUCK.pairs()), kind=kind)
            self.refuses(NotRight, {"fault": fault}, number_of, STUCK, Order(STUCK.pairs()), kind=kind)

    def test_12_pairs_of_one_price(self):
        for rows in TWELVES[:4]:
            table = Table(rows)
            pairs = table.pairs()
            for kind in KINDS:
                self.assertEqual(count(table, kind=kind), 479001600)
                self.assertEqual(order_at(table, 0, kind=kind).pairs(), pairs)
                self.assertEqual(order_at(table, 479001599, kind=kind).pairs(), pairs[::-1])
                self.assertEqual(number_of(table, Order(pairs[::-1]), kind=kind), 479001599)
                self.assertEqual(order_at(table, 39916800, kind=kind).pairs(), [pairs[1], pairs[0]] + pairs[2:])
                self.assertEqual(number_of(table, Order([pairs[1], pairs[0]] + pairs[2:]), kind=kind), 39916800)
                self.refuses(InvalidBound, {"name": "number"}, order_at, table, 479001600, kind=kind)
        line = Table([[None] * 8] * 7 + [[5] * 8])
        self.assertEqual(count(line, kind="any"), 40320)

    def test_12_pairs_in_many_forms(self):
        chance = random.Random(12)
        for seed, rows in enumerate(TWELVES[2:] * 3):
            rows = [[chance.randint(0, seed // 4) if cell == 0 else None for cell in row] for row in rows]
            table = Table(rows)
            self.assertEqual(len(table), 12)
            for kind in ("even", KINDS[1 + seed % 3]):
                many = count(table, kind=kind)
                if seed in (3, 8):
                    self.assertEqual(many, ways(table, kind))
                for number in [many // 3, many - 1]:
                    if 0 <= number < many:
                        order = order_at(table, number, kind=kind)
                        self.assertEqual(plain_faults(rows, order.pairs(), kind), [])
                        self.assertEqual(number_of(table, order, kind=kind), number)
                        if number + 1 < many:
                            self.assertLess(order, order_at(table, number + 1, kind=kind))

    def test_neighbours_by_number_have_no_right_order_between(self):
        rows = [[1, 0, None], [0, 1, 1], [None, 1, 0]]
        table = Table(rows)
        every = [order_at(table, number).pairs() for number in range(count(table))]
        self.assertEqual(every, right_orders(rows, "even"))

    def test_great_and_negative_prices(self):
        rows = [[GREAT, -GREAT, GREAT - 1], [-GREAT, GREAT, 1 - GREAT]]
        for kind in KINDS:
            plain = right_orders(rows, kind)
            self.assertEqual(count(Table(rows), kind=kind), len(plain))
            for number, pairs in enumerate(plain):
                self.assertEqual(order_at(Table(rows), number, kind=kind).pairs(), pairs)
        self.assertEqual(count(Table([[GREAT, GREAT], [GREAT, GREAT]]), kind="any"), 24)
        self.assertEqual(count(Table([[GREAT, GREAT], [GREAT, GREAT - 1]])), len(right_orders([[1, 1], [1, 0]], "even")))


class Refusing(Checks):
    def test_more_than_12_pairs(self):
        for table in (thirteen(), Table.filled(8, 8, 1), Table.filled(2, 7, -1), Table([[GREAT] * 7, [1] * 7])):
            for kind in KINDS:
                self.refuses(LimitExceeded, {"limit": 12}, count, table, kind=kind)
                self.refuses(LimitExceeded, {"limit": 12}, order_at, table, 0, kind=kind)
                self.refuses(LimitExceeded, {"limit": 12}, number_of, table, Order(table.pairs()), kind=kind)
            for number in NOT_INTEGERS + [-1, GREAT]:
                self.refuses(LimitExceeded, {"limit": 12}, order_at, table, number)

    def test_wrong_numbers(self):
        table = Table([[1, 2], [2, 1]])
        for number in NOT_INTEGERS + [-1, 12, 13, GREAT, -GREAT, [0], (0,), "0"]:
            self.refuses(InvalidBound, {"name": "number"}, order_at, table, number)
        self.refuses(InvalidBound, {"name": "number"}, order_at, Table([[5]]), True)
        self.refuses(InvalidBound, {"name": "number"}, order_at, Table([[5]]), False)

    def test_the_kind_comes_before_the_limit(self):
        for table in (Table([[1, 2], [2, 1]]), thirteen()):
            for kind in WRONG_KINDS:
                self.refuses(InvalidBound, {"name": "kind"}, count, table, kind=kind)
                for number in (0, -1, None, "0"):
                    self.refuses(InvalidBound, {"name": "kind"}, order_at, table, number, kind=kind)
                self.refuses(InvalidBound, {"name": "kind"}, number_of, table, Order(table.pairs()), kind=kind)

    def test_the_order_comes_first(self):
        small, great = Table([[1, 2], [2, None]]), thirteen()
        for table in (small, great):
            pairs = table.pairs()
            for other in (pairs[1:], pairs + [(7, 7)], pairs[1:] + [(1, 7)], [], pairs + [(1, 7)]):
                for kind in ("even", "any", "odd", None):
                    self.refuses(InvalidOrder, {"at": -1}, number_of, table, Order(other), kind=kind)
        self.refuses(InvalidOrder, {"at": -1}, number_of, small, Order([(0, 0), (0, 1), (1, 1)]))

    def test_the_limit_comes_before_not_right(self):
        table = Table([[1, 0, 0, 0, 0, 0, 0], [0, 1, 1, 1, 1, 1, None]])
        self.assertIs(is_right(table, Order(table.pairs())), False)
        self.refuses(LimitExceeded, {"limit": 12}, number_of, table, Order(table.pairs()))
        smaller = table.without([], [6])
        order = Order(smaller.pairs())
        self.refuses(NotRight, {"fault": first_fault(smaller, order)}, number_of, smaller, order)

    def test_not_right_tells_the_first_fault_for_the_kind(self):
        for rows in small_tables(20, 4):
            table = Table(rows)
            for pairs in itertools.permutations(pairs_of(rows)):
                for kind in KINDS:
                    plain = plain_faults(rows, list(pairs), kind)
                    if plain:
                        self.refuses(NotRight, {"fault": plain[0]}, number_of, table, Order(list(pairs)), kind=kind)

    def test_by_names(self):
        table = Table([[1, 2], [2, 1]])
        self.assertEqual(count(kind="even", table=table), 12)
        self.assertEqual(order_at(kind="even", number=0, table=table), Order(table.pairs()))
        self.assertEqual(number_of(kind="even", order=Order(table.pairs()), table=table), 0)
        for work, args in [(count, (table,)), (order_at, (table, 0)), (number_of, (table, Order(table.pairs())))]:
            with self.assertRaises(TypeError):
                work(*args, "any")

    def test_nothing_is_changed(self):
        rows = some_rows(3, 2, 3)
        table = Table(rows)
        order = order_at(table, 0)
        order.pairs().clear()
        self.assertEqual(number_of(table, order), 0)
        self.assertEqual(order_at(table, 0), order)
        self.assertEqual(table.rows(), rows)


if __name__ == "__main__":
    unittest.main()
