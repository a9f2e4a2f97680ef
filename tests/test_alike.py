"""Points 11.1 to 11.3, and 0.6 to 0.10 as far as they speak of them: pairorder/alike.py."""

import itertools
import random
import unittest

from pairorder.alike import normal, parted, parting
from pairorder.amounts import Amounts
from pairorder.errors import InvalidOrder
from pairorder.orders import Order
from pairorder.right import is_right
from pairorder.serving import Server
from pairorder.tables import Table
from plain import disagreements, pairs_of, served_by, small_tables, some_rows
from values import GREAT, Checks

TABLE = Table([[0, 0], [0, 0]])


def share_line(p, q):
    return p[0] == q[0] or p[1] == q[1]


def results(rows, pairs, most=2):
    """What an order serves of all amounts up to `most` in each line."""
    many = len(rows)
    return [served_by(pairs, numbers[:many], numbers[many:])
            for numbers in itertools.product(range(most + 1), repeat=many + len(rows[0]))]


def ones(rows, p, q):
    """The lists of amounts that are 1 for each stock and each wish of p and of q."""
    return ([int(i in (p[0], q[0])) for i in range(len(rows))], [int(j in (p[1], q[1])) for j in range(len(rows[0]))])


def small_rows():
    """Tables with so few pairs that all their orders and amounts can be tried."""
    return [rows for rows in small_tables(30, 5) if len(rows) + len(rows[0]) <= 5]


class Alike(Checks):
    def test_the_example(self):
        order = Order([(1, 1), (0, 0), (0, 1), (1, 0)])
        self.assertEqual(normal(TABLE, order).pairs(), [(0, 0), (1, 1), (0, 1), (1, 0)])

    def test_against_all_amounts(self):
        """Points 11.1 to 11.3, and 11.2 also for each two pairs that share a line, not the least ones only."""
        alike = apart = 0
        for rows in small_rows():
            table = Table(rows)
            orders = [list(pairs) for pairs in itertools.permutations(pairs_of(rows))]
            served = {tuple(pairs): results(rows, pairs) for pairs in orders}
            for one in orders[::1 + len(orders) // 12]:
                least = next(pairs for pairs in orders if served[tuple(pairs)] == served[tuple(one)])
                self.assertEqual(normal(table, Order(one)).pairs(), least)
                for other in orders[::1 + len(orders) // 20]:
                    same = served[tuple(one)] == served[tuple(other)]
                    apart_on = [(p, q) for p, q in disagreements(one, other) if share_line(p, q)]
                    self.assertEqual(parted(table, Order(one), Order(other)), apart_on[0] if apart_on else None)
                    self.assertIs(not apart_on, same)
                    self.assertIs(normal(table, Order(one)) == normal(table, Order(other)), same)
                    for p, q in apart_on:
                        stocks, wishes = ones(rows, p, q)
                        self.assertNotEqual(served_by(one, stocks, wishes), served_by(other, stocks, wishes))
                    alike += same and one != other
                    apart += not same
        self.assertGreater(alike, 20)
        self.assertGreater(apart, 200)

    def test_parting_is_served_differently(self):
        for rows in small_tables(40, 9):
            table, chance = Table(rows), random.Random(len(rows))
            orders = [chance.sample(pairs_of(rows), len(pairs_of(rows))) for _ in range(5)]
            for one, other in itertools.product(orders, repeat=2):
                found = parted(table, Order(one), Order(other))
                amounts = parting(table, Order(one), Order(other))
                if found is None:
                    self.assertIsNone(amounts)
                else:
                    self.assertIsInstance(amounts, Amounts)
                    self.assertEqual((amounts.stocks(), amounts.wishes()), ones(rows, *found))
                    self.assertNotEqual(Server(table, Order(one))(amounts), Server(table, Order(other))(amounts))

    def test_the_least_two_pairs(self):
        one, other = Order([(0, 0), (0, 1), (1, 0), (1, 1)]), Order([(1, 1), (1, 0), (0, 1), (0, 0)])
        self.assertEqual(parted(TABLE, one, other), ((0, 0), (0, 1)))
        self.assertEqual(parted(TABLE, other, one), ((0, 0), (0, 1)))
        self.assertEqual(parting(TABLE, one, other), Amounts([1, 0], [1, 1]))
        one, other = Order([(0, 0), (0, 1), (1, 0), (1, 1)]), Order([(1, 0), (0, 0), (1, 1), (0, 1)])
        self.assertEqual(parted(TABLE, one, other), ((0, 0), (1, 0)))
        self.assertEqual(parting(TABLE, one, other), Amounts([1, 1], [1, 0]))
        one, other = Order([(0, 0), (0, 1), (1, 0), (1, 1)]), Order([(0, 0), (1, 0), (1, 1), (0, 1)])
        self.assertEqual(parted(TABLE, one, other), ((0, 1), (1, 1)))
        one, other = Order([(0, 0), (0, 1), (1, 0), (1, 1)]), Order([(0, 0), (0, 1), (1, 1), (1, 0)])
        self.assertEqual(parted(TABLE, one, other), ((1, 0), (1, 1)))

    def test_pairs_without_a_line_in_common_do_not_matter(self):
        one, other = Order([(0, 0), (1, 1), (0, 1), (1, 0)]), Order([(1, 1), (0, 0), (1, 0), (0, 1)])
        self.assertIsNone(parted(TABLE, one, other))
        self.assertIsNone(parting(TABLE, one, other))
        self.assertEqual(normal(TABLE, other), one)
        table = Table([[5 if i == j else None for j in range(8)] for i in range(8)])
        for many in range(8):
            order = Order(table.pairs()[many:] + table.pairs()[:many])
            self.assertIsNone(parted(table, Order(table.pairs()), order))
            self.assertEqual(normal(table, order).pairs(), table.pairs())

    def test_one_line(self):
        for table in (Table([[3, None, 1, 2, 9]]), Table([[3, None, 1, 2, 9]]).turned()):
            every = [Order(list(pairs)) for pairs in itertools.permutations(table.pairs())]
            for one in every:
                self.assertEqual(normal(table, one), one)
                for other in every:
                    self.assertIs(parted(table, one, other) is None, one == other)

    def test_a_table_without_pairs(self):
        for table in (Table([[None]]), Table.filled(8, 8, None)):
            self.assertEqual(normal(table, Order([])), Order([]))
            self.assertIsNone(parted(table, Order([]), Order([])))
            self.assertIsNone(parting(table, Order([]), Order([])))

    def test_rightness_and_prices_do_not_matter(self):
        pairs = [(1, 1), (0, 0), (0, 1), (1, 0)]
        for rows in ([[0, 0], [0, 0]], [[9, 1], [1, 9]], [[1, 9], [9, 1]], [[GREAT, -GREAT], [0, 5]]):
            self.assertEqual(normal(Table(rows), Order(pairs)).pairs(), [(0, 0), (1, 1), (0, 1), (1, 0)])
        self.assertIs(is_right(Table([[9, 1], [1, 9]]), Order(pairs)), False)

    def test_the_normal_form_of_a_normal_form(self):
        for rows in small_tables(40, 9) + [some_rows(seed, 8, 8, barred=0.4) for seed in range(5)]:
            table, chance = Table(rows), random.Random(7)
            order = Order(chance.sample(pairs_of(rows), len(pairs_of(rows))))
            form = normal(table, order)
            self.assertIsInstance(form, Order)
            self.assertIsNone(parted(table, order, form))
            self.assertEqual(normal(table, form), form)
            self.assertLessEqual(form, order)

    def test_exchanges_that_change_nothing(self):
        """On great tables: neighbours that share no line may change places, and those that share one may not."""
        chance = random.Random(3)
        for rows in [some_rows(seed, 8, 8, barred=0.3) for seed in range(3)] + [[[0] * 8] * 8]:
            table = Table(rows)
            order = Order(chance.sample(pairs_of(rows), len(pairs_of(rows))))
            form, now = normal(table, order), order
            for k in [chance.randrange(len(order) - 1) for _ in range(200)]:
                p, q = now[k], now[k + 1]
                after = now.exchanged(k)
                if share_line(p, q):
                    self.assertEqual(parted(table, now, after), (min(p, q), max(p, q)))
                    self.assertNotEqual(normal(table, after), form)
                else:
                    self.assertIsNone(parted(table, now, after))
                    now = after
            self.assertEqual(normal(table, now), form)

    def test_no_exchange_makes_the_normal_form_less(self):
        table = Table.filled(8, 8, 1)
        form = normal(table, Order(random.Random(8).sample(table.pairs(), 64)))
        for k in range(63):
            if not share_line(form[k], form[k + 1]):
                self.assertLess(form[k], form[k + 1])


class Refusing(Checks):
    def test_orders_of_other_pairs(self):
        table = Table([[1, None], [2, 3]])
        good = Order([(1, 1), (0, 0), (1, 0)])
        for pairs in ([], [(0, 0)], [(0, 0), (1, 0)], [(0, 0), (1, 0), (0, 1)], [(0, 0), (1, 0), (1, 1), (0, 1)],
                      [(0, 0), (1, 0), (7, 7)], [(0, 0), (1, 0), (1, 1), (2, 2)]):
            self.refuses(InvalidOrder, {"at": -1}, normal, table, Order(pairs))
            for work in (parted, parting):
                self.refuses(InvalidOrder, {"at": -1}, work, table, Order(pairs), good)
                self.refuses(InvalidOrder, {"at": -1}, work, table, good, Order(pairs))
                self.refuses(InvalidOrder, {"at": -1}, work, table, Order(pairs), Order(pairs))

    def test_by_names(self):
        one, other = Order([(0, 0), (0, 1), (1, 0), (1, 1)]), Order([(1, 1), (1, 0), (0, 1), (0, 0)])
        self.assertEqual(parted(other=other, table=TABLE, one=one), ((0, 0), (0, 1)))
        self.assertEqual(parting(other=other, table=TABLE, one=one), Amounts([1, 0], [1, 1]))
        self.assertEqual(normal(order=one, table=TABLE), one)
        for work in (parted, parting):
            with self.assertRaises(TypeError):
                work(TABLE, one, other, kind="even")

    def test_nothing_is_changed(self):
        one, other = Order([(0, 0), (0, 1), (1, 0), (1, 1)]), Order([(1, 1), (1, 0), (0, 1), (0, 0)])
        form = normal(TABLE, other)
        form.pairs().clear()
        parting(TABLE, one, other).stocks().clear()
        self.assertEqual(parting(TABLE, one, other), Amounts([1, 0], [1, 1]))
        self.assertEqual(normal(TABLE, other), form)
        self.assertEqual((one.pairs()[0], other.pairs()[0], TABLE.rows()), ((0, 0), (1, 1), [[0, 0], [0, 0]]))


if __name__ == "__main__":
    unittest.main()
