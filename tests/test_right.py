"""Points 7.1 to 7.8 and 0.2, and 0.6 to 0.10 as far as they speak of right orders: pairorder/right.py."""

import itertools
import random
import unittest

from pairorder.amounts import Amounts
from pairorder.certificates import fits, least_cost
from pairorder.errors import InvalidBound, InvalidOrder
from pairorder.kinds import KINDS, suits
from pairorder.nexts import has_order, is_stuck, stuck
from pairorder.orders import Order
from pairorder.right import amounts_of, faults, first_fault, is_fault, is_right, shown
from pairorder.serving import Server, Serving
from pairorder.tables import Table
from plain import holds, is_right_for, pairs_of, plain_faults, small_tables, some_rows
from values import GREAT, NOT_TWOS, WRONG_KINDS, Checks

TURNED = {"even": "even", "stock": "wish", "wish": "stock", "any": "any"}


def example():
    return Table([[4, 1], [2, 3]]), Order([(0, 0), (0, 1), (1, 0), (1, 1)])


def some_orders(rows, seed, count):
    """All orders of the pairs, or as many by chance if there are more."""
    pairs = pairs_of(rows)
    every = [list(order) for order in itertools.permutations(pairs)] if len(pairs) < 5 else []
    if every and len(every) <= count:
        return every
    chance = random.Random(seed)
    return [chance.sample(pairs, len(pairs)) for _ in range(count)]


def any_tuples(rows):
    """Every tuple of a word and two cells of the table, or a little outside of it."""
    numbers = list(itertools.product(range(-1, len(rows) + 1), range(-1, len(rows[0]) + 1)))
    for word in ("cross", "column", "row"):
        for one, other in itertools.product(numbers, repeat=2):
            yield (word, one, other)


def inside(rows, cell):
    return 0 <= cell[0] < len(rows) and 0 <= cell[1] < len(rows[0])


class Faults(Checks):
    def test_the_example(self):
        table, order = example()
        self.assertEqual(faults(table, order, kind="any"),
                         [("cross", (0, 0), (1, 1)), ("column", (0, 0), (1, 0)), ("row", (0, 0), (0, 1))])
        self.assertEqual(faults(table, order, kind="stock"), [("cross", (0, 0), (1, 1)), ("column", (0, 0), (1, 0))])
        self.assertEqual(faults(table, order, kind="wish"), [("cross", (0, 0), (1, 1)), ("row", (0, 0), (0, 1))])
        self.assertEqual(faults(table, order, kind="even"), [("cross", (0, 0), (1, 1))])
        self.assertEqual(faults(table, order), [("cross", (0, 0), (1, 1))])

    def test_against_a_plain_search(self):
        for seed, rows in enumerate(small_tables(50, 9)):
            table = Table(rows)
            for pairs in some_orders(rows, seed, 12):
                order = Order(pairs)
                for kind in KINDS:
                    plain = plain_faults(rows, pairs, kind)
                    self.assertEqual(faults(table, order, kind=kind), plain)
                    self.assertEqual(first_fault(table, order, kind=kind), plain[0] if plain else None)
                    self.assertIs(is_right(table, order, kind=kind), not plain)
                even = plain_faults(rows, pairs, "even")
                self.assertEqual(faults(table, order), even)
                self.assertEqual(first_fault(table, order), even[0] if even else None)
                self.assertIs(is_right(table, order), not even)

    def test_a_barred_cell_makes_a_cross(self):
        table = Table([[0, 0], [0, None]])
        self.assertEqual(faults(table, Order([(0, 0), (0, 1), (1, 0)])), [("cross", (0, 0), (1, 1))])
        self.assertEqual(faults(table, Order([(0, 1), (0, 0), (1, 0)])), [])
        self.assertEqual(faults(table, Order([(1, 0), (0, 0), (0, 1)]), kind="any"), [])

    def test_equal_prices_are_no_fault(self):
        for order in itertools.permutations([(0, 0), (0, 1), (1, 0), (1, 1)]):
            self.assertEqual(faults(Table([[3, 3], [3, 3]]), Order(list(order)), kind="any"), [])
            self.assertEqual(faults(Table([[1, 2], [3, 4]]), Order(list(order)), kind="even"), [])

    def test_tables_without_pairs_and_with_one_line(self):
        for kind in KINDS:
            self.assertEqual(faults(Table.filled(3, 2, None), Order([]), kind=kind), [])
            self.assertIs(is_right(Table.filled(3, 2, None), Order([]), kind=kind), True)
        row = Table([[2, 1, 3]])
        self.assertEqual(faults(row, Order([(0, 0), (0, 1), (0, 2)]), kind="wish"), [("row", (0, 0), (0, 1))])
        self.assertEqual(faults(row, Order([(0, 0), (0, 1), (0, 2)]), kind="stock"), [])
        column = row.turned()
        self.assertEqual(faults(column, Order([(2, 0), (0, 0), (1, 0)]), kind="any"),
                         [("column", (2, 0), (0, 0)), ("column", (2, 0), (1, 0)), ("column", (0, 0), (1, 0))])
        self.assertEqual(faults(column, Order([(2, 0), (0, 0), (1, 0)]), kind="wish"), [])

    def test_great_and_negative_prices(self):
        pairs = [(0, 0), (0, 1), (1, 0), (1, 1)]
        self.assertEqual(faults(Table([[GREAT, -GREAT], [GREAT, -GREAT]]), Order(pairs)), [])
        self.assertEqual(faults(Table([[GREAT, -GREAT], [GREAT - 1, -GREAT]]), Order(pairs)), [("cross", (0, 0), (1, 1))])
        self.assertEqual(faults(Table([[-GREAT, 1 - GREAT], [0, 1]]), Order(pairs), kind="any"), [])

    def test_8_stocks_and_8_wishes(self):
        rows = some_rows(4, 8, 8, -5, 5, 0.2)
        pairs = pairs_of(rows)
        random.Random(4).shuffle(pairs)
        for kind in KINDS:
            self.assertEqual(faults(Table(rows), Order(pairs), kind=kind), plain_faults(rows, pairs, kind))
        monge = Table([[-i * j for j in range(8)] for i in range(8)])
        self.assertIs(is_right(monge, Order(monge.pairs())), True)
        self.assertIs(is_right(monge, Order(monge.pairs()), kind="any"), False)

    def test_a_returned_list_is_a_new_one(self):
        table, order = example()
        faults(table, order, kind="any").clear()
        self.assertEqual(len(faults(table, order, kind="any")), 3)
        self.assertIsNot(faults(table, order), faults(table, order))

    def test_an_order_of_other_pairs(self):
        table = Table([[1, None], [2, 3]])
        for pairs in ([], [(0, 0)], [(0, 0), (1, 0), (0, 1)], [(0, 0), (1, 0), (1, 1), (0, 1)],
                      [(0, 0), (1, 0), (7, 7)], [(0, 0), (1, 0), (1, 1), (2, 2)]):
            for work in (faults, first_fault, is_right):
                self.refuses(InvalidOrder, {"at": -1}, work, table, Order(pairs))
                # The order is checked before the kind.
                self.refuses(InvalidOrder, {"at": -1}, work, table, Order(pairs), kind="odd")
            self.refuses(InvalidOrder, {"at": -1}, shown, table, Order(pairs), None)
            self.refuses(InvalidOrder, {"at": -1}, shown, table, Order(pairs), ("row", (1, 1), (1, 0)))

    def test_wrong_kinds(self):
        table, order = example()
        for kind in WRONG_KINDS:
            for work in (faults, first_fault, is_right):
                self.refuses(InvalidBound, {"name": "kind"}, work, table, order, kind=kind)

    def test_the_kind_is_passed_by_name_only(self):
        for work in (faults, first_fault, is_right):
            with self.assertRaises(TypeError):
                work(*example(), "any")
            table, order = example()
            work(order=order, kind="any", table=table)


class IsFault(Checks):
    def test_against_all_orders(self):
        for rows in ([[4, 1], [2, 3]], [[0, None], [1, 0]], [[1, 2, 1], [3, 0, None]], [[2, 1, 3]], [[2], [1]]):
            pairs = pairs_of(rows)
            found = set()
            for order in itertools.permutations(pairs):
                found.update(plain_faults(rows, list(order), "any"))
            for value in any_tuples(rows):
                self.assertIs(is_fault(Table(rows), value), value in found, (rows, value))

    def test_against_the_conditions_that_do_not_speak_of_places(self):
        for rows in small_tables(20, 9):
            table = Table(rows)
            for value in any_tuples(rows):
                plain = inside(rows, value[1]) and inside(rows, value[2]) and rows[value[1][0]][value[1][1]] is not None
                if plain:
                    plain = holds(rows, value, lambda pair: True)
                self.assertIs(is_fault(table, value), plain)

    def test_values_of_another_form(self):
        table = Table([[4, 1], [2, 3]])
        self.assertIs(is_fault(value=("cross", (0, 0), (1, 1)), table=table), True)
        wrong = [None, True, 0, 1, "", "cross", b"cross", [], (), {}, set(), ["cross", (0, 0), (1, 1)],
                 ("cross", (0, 0)), ("cross", (0, 0), (1, 1), None), ("cross", [0, 0], (1, 1)), ("cross", (0, 0), [1, 1]),
                 ("cross", (False, 0), (1, 1)), ("cross", (0, 0), (True, 1)), ("cross", (0, 0), (1, True)),
                 ("cross", (0.0, 0), (1, 1)), ("cross", (0, 0), (1.0, 1)), ("Cross", (0, 0), (1, 1)),
                 (b"cross", (0, 0), (1, 1)), (None, (0, 0), (1, 1)), (0, (0, 0), (1, 1)), (["cross"], (0, 0), (1, 1)),
                 ({}, (0, 0), (1, 1)), ("crosses", (0, 0), (1, 1)), ("", (0, 0), (1, 1)), ("even", (0, 0), (1, 1)),
                 ((0, 0), (1, 1), "cross"), ("cross", (0, 0, 0), (1, 1)), ("cross", (0,), (1, 1)),
                 ("cross", (-2, -2), (-1, -1)), ("cross", (0, 0), (-1, -1)), ("cross", (0, 0), (2, 2)),
                 ("cross", (GREAT, 0), (1, 1)), ("cross", None, None), ("column", (0, 0), None), ("row", (0, 0), (0, True)),
                 {"cross": 1, (0, 0): 2, (1, 1): 3}, "abc", range(3), [[[[[[[["cross"]]]]]]]]]
        wrong.extend(("cross", value, (1, 1)) for value in NOT_TWOS)
        wrong.extend(("row", (0, 0), value) for value in NOT_TWOS)
        for value in wrong:
            before = repr(value)
            self.assertIs(is_fault(table, value), False, repr(value))
            self.refuses(InvalidBound, {"name": "fault"}, amounts_of, table, value)
            self.refuses(InvalidBound, {"name": "fault"}, shown, table, example()[1], value)
            self.assertEqual(repr(value), before)

    def test_no_table_without_pairs_has_one(self):
        for value in any_tuples([[None] * 2] * 2):
            self.assertIs(is_fault(Table.filled(2, 2, None), value), False)

    def test_the_second_cell_of_a_cross_alone_may_be_barred(self):
        self.assertIs(is_fault(Table([[0, 0], [0, None]]), ("cross", (0, 0), (1, 1))), True)
        self.assertIs(is_fault(Table([[0, 0], [None, 0]]), ("cross", (0, 0), (1, 1))), False)
        self.assertIs(is_fault(Table([[0, None], [0, 0]]), ("cross", (0, 0), (1, 1))), False)
        self.assertIs(is_fault(Table([[None, 0], [0, 0]]), ("cross", (0, 0), (1, 1))), False)
        self.assertIs(is_fault(Table([[5, None]]), ("row", (0, 0), (0, 1))), False)
        self.assertIs(is_fault(Table([[5], [None]]), ("column", (0, 0), (1, 0))), False)
        self.assertIs(is_fault(Table([[None], [5]]), ("column", (0, 0), (1, 0))), False)


class Shown(Checks):
    def test_the_example(self):
        pair = shown(Table([[4, 1], [2, 3]]), Order([(0, 0), (0, 1), (1, 0), (1, 1)]), ("cross", (0, 0), (1, 1)))
        self.assertEqual([pair[0].moved(), pair[0].cost(), pair[1].moved(), pair[1].cost()],
                         [[((0, 0), 1), ((1, 1), 1)], 7, [((0, 1), 1), ((1, 0), 1)], 3])

    def test_every_fault_of_small_tables(self):
        for seed, rows in enumerate(small_tables(40, 9)):
            table = Table(rows)
            for pairs in some_orders(rows, seed, 6):
                order = Order(pairs)
                known = plain_faults(rows, pairs, "any")
                for fault in known:
                    self.check_fault(table, order, fault)
                for value in any_tuples(rows):
                    if value not in known:
                        self.refuses(InvalidBound, {"name": "fault"}, shown, table, order, value)

    def check_fault(self, table, order, fault):
        word, (i, j), (r, s) = fault
        amounts = amounts_of(table, fault)
        self.assertEqual(amounts.stocks(), [int(line in (i, r)) for line in range(table.stocks())])
        self.assertEqual(amounts.wishes(), [int(line in (j, s)) for line in range(table.wishes())])
        found = shown(table, order, fault)
        self.assertIs(found.__class__, tuple)
        served, better = found
        self.assertIsInstance(served, Serving)
        self.assertEqual(served, Server(table, order)(amounts))
        moved = {"cross": [(i, s), (r, j)], "column": [(r, j)], "row": [(i, s)]}[word]
        self.assertEqual(better.moved(), [(pair, 1) for pair in sorted(moved)])
        self.assertEqual(better.amounts(), amounts)
        # The facts of 7.7 and 0.2.
        self.assertIs(better.is_full(), True)
        self.assertTrue(not served.is_full() or served.cost() > better.cost())
        self.assertIs(fits(table, amounts), True)
        self.assertIs(suits(amounts, kind={"cross": "even", "column": "stock", "row": "wish"}[word]), True)
        self.assertTrue(not served.is_full() or served.cost() > least_cost(table, amounts))

    def test_the_amounts_of_each_word(self):
        table = Table([[4, 1, 0], [2, 3, 0], [0, 0, 0]])
        for fault, stocks, wishes in [(("cross", (0, 0), (1, 1)), [1, 1, 0], [1, 1, 0]),
                                      (("column", (0, 0), (2, 0)), [1, 0, 1], [1, 0, 0]),
                                      (("row", (1, 1), (1, 2)), [0, 1, 0], [0, 1, 1])]:
            self.assertEqual(amounts_of(fault=fault, table=table), Amounts(stocks, wishes))

    def test_a_fault_of_another_order(self):
        table, order = example()
        self.assertIs(is_fault(table, ("row", (1, 1), (1, 0))), True)
        self.assertEqual(amounts_of(table, ("row", (1, 1), (1, 0))), Amounts([0, 1], [1, 1]))
        self.refuses(InvalidBound, {"name": "fault"}, shown, table, order, ("row", (1, 1), (1, 0)))
        self.assertEqual(shown(fault=("row", (0, 0), (0, 1)), order=order, table=table)[1].moved(), [((0, 1), 1)])

    def test_faults_for_stock_and_wish_count_too(self):
        table, order = example()
        for fault in (("column", (0, 0), (1, 0)), ("row", (0, 0), (0, 1))):
            served, better = shown(table, order, fault)
            self.assertEqual((served.cost() > better.cost(), served.is_full()), (True, True))


class Facts(Checks):
    def test_right_if_and_only_if_without_a_fault(self):
        """Points 0.2, 7.1 and 7.4, against all orders and all amounts of zeros and ones, and greater ones."""
        for rows in small_tables(18, 4) + [[[4, 1], [2, 3]], [[0, 1], [None, 2]]]:
            table, pairs = Table(rows), pairs_of(rows)
            most = 2 if len(rows) + len(rows[0]) <= 4 else 1
            for order in itertools.permutations(pairs):
                found = {kind: is_right(table, Order(list(order)), kind=kind) for kind in KINDS}
                for kind in KINDS:
                    self.assertIs(found[kind], is_right_for(rows, order, kind, most), (rows, order, kind))
                self.assertIs(found["any"], found["stock"] and found["wish"])
                self.assertTrue(found["even"] or not (found["stock"] or found["wish"] or found["any"]))

    def test_a_table_has_a_right_order_if_and_only_if_it_has_no_stuck_set(self):
        for rows in small_tables(30, 5):
            table = Table(rows)
            for kind in KINDS:
                exists = any(is_right(table, Order(list(order)), kind=kind)
                             for order in itertools.permutations(pairs_of(rows)))
                self.assertIs(has_order(table, kind=kind), exists)
                self.assertEqual(stuck(table, kind=kind) == [], exists)
                self.assertIs(is_stuck(table, stuck(table, kind=kind), kind=kind), not exists)

    def test_right_orders_serve_at_the_same_cost(self):
        chance = random.Random(31)
        for rows in small_tables(20, 5):
            table = Table(rows)
            for kind in KINDS:
                servers = [Server(table, order) for order in right_orders(table, kind)]
                for _ in range(4):
                    amounts = Amounts([chance.randint(0, 9) for _ in rows], [chance.randint(0, 9) for _ in rows[0]])
                    if suits(amounts, kind=kind) and fits(table, amounts):
                        for server in servers:
                            self.assertEqual(server(amounts).cost(), least_cost(table, amounts))
                            self.assertIs(server(amounts).is_full(), True)

    def test_what_stays_right(self):
        """Point 7.8."""
        chance = random.Random(32)
        for rows in small_tables(24, 5):
            table = Table(rows)
            changed = Table([[None if price is None else chance.randint(-2, 2) for price in row] for row in rows])
            shifts = [chance.randint(-GREAT, GREAT) for _ in rows], [chance.randint(-GREAT, GREAT) for _ in rows[0]]
            for kind in KINDS:
                for order in right_orders(table, kind)[:8]:
                    for k in (1, 3, GREAT):
                        self.assertIs(is_right(k * table, order, kind=kind), True)
                    if is_right(changed, order, kind=kind):
                        self.assertIs(is_right(table + changed, order, kind=kind), True)
                    if kind == "even":
                        self.assertIs(is_right(table.shifted(*shifts), order), True)
                    self.assertIs(is_right(table.turned(), order.turned(), kind=TURNED[kind]), True)
                    self.check_without(table, order, kind)

    def check_without(self, table, order, kind):
        for stock in range(table.stocks() if table.stocks() > 1 else 0):
            rest = [(i - (i > stock), j) for i, j in order.pairs() if i != stock]
            self.assertIs(is_right(table.without([stock], []), Order(rest), kind=kind), True)
        for wish in range(table.wishes() if table.wishes() > 1 else 0):
            rest = [(i, j - (j > wish)) for i, j in order.pairs() if j != wish]
            self.assertIs(is_right(table.without([], [wish]), Order(rest), kind=kind), True)


def right_orders(table, kind):
    orders = [Order(list(order)) for order in itertools.permutations(table.pairs())]
    return [order for order in orders if is_right(table, order, kind=kind)]


if __name__ == "__main__":
    unittest.main()
