"""Points 10.1 to 10.3, and 0.6 to 0.10 as far as they speak of them: pairorder/leading.py."""

import itertools
import random
import unittest

from pairorder.errors import InvalidBound, InvalidOrder, NotRight
from pairorder.kinds import KINDS
from pairorder.leading import is_led, led, unlike
from pairorder.nexts import may_stand
from pairorder.orders import Order
from pairorder.right import first_fault, is_right
from pairorder.tables import Table
from plain import disagreements, exchanged, pairs_of, plain_faults, right_orders, small_tables, some_rows
from values import GREAT, NOT_INTEGERS, NOT_LISTS, WRONG_KINDS, Checks

TABLE = Table([[4, 1], [2, 3]])
# Both are right for "even", and an exchange at the wrong time leads over orders that are not.
ONE = Order([(0, 1), (0, 0), (1, 0), (1, 1)])
OTHER = Order([(1, 0), (1, 1), (0, 1), (0, 0)])
NOT_RIGHT = Order([(0, 0), (0, 1), (1, 0), (1, 1)])
NOT_RIGHT_TOO = Order([(1, 1), (1, 0), (0, 0), (0, 1)])


def plain_is_led(right, one, other, value):
    """Whether a list of integers is a lead, where `right` are all right orders."""
    now = one
    for k in value:
        if not 0 <= k < len(now) - 1:
            return False
        now = exchanged(now, k)
        if now not in right:
            return False
    return now == other and len(value) == len(disagreements(one, other))


def distances(right, one):
    """How many exchanges lead from one right order to each other one, over right orders only."""
    found, last, many = {tuple(one): 0}, [one], 0
    while last:
        many += 1
        following = []
        for order in last:
            for k in range(len(order) - 1):
                after = exchanged(order, k)
                if after in right and tuple(after) not in found:
                    found[tuple(after)] = many
                    following.append(after)
        last = following
    return found


def some_right_order(table, kind, chance):
    """A right order of a table that has one, by chance."""
    placed = []
    while len(placed) < len(table):
        placed.append(chance.choice(may_stand(table, placed, kind=kind)))
    return Order(placed)


class Unlike(Checks):
    def test_against_a_plain_count(self):
        pairs = [(0, 0), (0, 3), (2, 1), (7, 7), (5, 0)]
        orders = [list(order) for order in itertools.permutations(pairs)]
        for one in orders[::7]:
            for other in orders[::3]:
                self.assertEqual(unlike(Order(one), Order(other)), len(disagreements(one, other)))

    def test_the_same_order_and_the_reversed_one(self):
        every = [(i, j) for i in range(8) for j in range(8)]
        for many in (0, 1, 2, 3, 10, 64):
            order = Order(every[:many])
            self.assertEqual(unlike(order, Order(every[:many])), 0)
            self.assertEqual(unlike(order, Order(every[:many][::-1])), many * (many - 1) // 2)
            self.assertIs(unlike(order, order).__class__, int)
        self.assertEqual(unlike(ONE, OTHER), 4)
        self.assertEqual(unlike(other=OTHER, one=ONE), 4)

    def test_orders_of_other_pairs(self):
        for one, other in itertools.permutations([[], [(0, 0)], [(0, 1)], [(0, 0), (0, 1)], [(0, 1), (1, 0)],
                                                  [(0, 0), (0, 1), (1, 0)]], 2):
            self.refuses(InvalidOrder, {"at": -1}, unlike, Order(one), Order(other))


class Led(Checks):
    def test_the_example(self):
        self.assertEqual(led(Table([[0, 0]]), Order([(0, 0), (0, 1)]), Order([(0, 1), (0, 0)])), [0])

    def test_every_two_right_orders_have_a_lead(self):
        """Point 10.3."""
        tried = 0
        for rows in small_tables(40, 5):
            table = Table(rows)
            for kind in KINDS:
                right = right_orders(rows, kind)
                for one in right[::1 + len(right) // 8]:
                    shortest = distances(right, one)
                    for other in right[::1 + len(right) // 8]:
                        lead = led(table, Order(one), Order(other), kind=kind)
                        self.assertIs(plain_is_led(right, one, other, lead), True, (rows, one, other, lead))
                        self.assertIs(is_led(table, Order(one), Order(other), lead, kind=kind), True)
                        self.assertEqual(len(lead), shortest[tuple(other)])
                        self.assertEqual(unlike(Order(one), Order(other)), len(lead))
                        tried += len(lead) > 1
        self.assertGreater(tried, 1000)

    def test_the_lead_from_an_order_to_itself(self):
        for kind in KINDS:
            table = Table([[0, 1, 1], [0, 1, 1]])
            order = Order([(0, 0), (1, 0), (0, 2), (1, 1), (1, 2), (0, 1)])
            self.assertEqual(led(table, order, order, kind=kind), [])
            self.assertIs(is_led(table, order, Order(order.pairs()), [], kind=kind), True)
            self.assertIs(is_led(table, order, order, [0, 0], kind=kind), False)
            self.assertEqual(led(Table([[None]]), Order([]), Order([]), kind=kind), [])
            self.assertIs(is_led(Table([[None]]), Order([]), Order([]), [], kind=kind), True)
            self.assertIs(is_led(Table([[None]]), Order([]), Order([]), [0], kind=kind), False)
            self.assertEqual(led(Table([[-5]]), Order([(0, 0)]), Order([(0, 0)]), kind=kind), [])

    def test_one_line(self):
        row = Table([[0] * 5])
        one, other = row.pairs(), row.pairs()[::-1]
        for kind in KINDS:
            lead = led(row, Order(one), Order(other), kind=kind)
            self.assertEqual(len(lead), 10)
            self.assertIs(is_led(row, Order(one), Order(other), lead, kind=kind), True)
        order = Order([(0, 1), (0, 0), (0, 2)])
        self.assertEqual(led(Table([[2, 1, 3]]), order, order, kind="wish"), [])

    def test_the_default_is_even(self):
        lead = led(TABLE, ONE, OTHER)
        self.assertEqual(lead, led(TABLE, ONE, OTHER, kind="even"))
        self.assertIs(is_led(TABLE, ONE, OTHER, lead), True)
        self.refuses(NotRight, {"fault": first_fault(TABLE, ONE, kind="any")}, led, TABLE, ONE, OTHER, kind="any")

    def test_8_stocks_and_8_wishes(self):
        table = Table.filled(8, 8, GREAT)
        one, other = Order(table.pairs()), Order(table.pairs()[::-1])
        for kind in KINDS:
            lead = led(table, one, other, kind=kind)
            self.assertEqual((len(lead), unlike(one, other)), (2016, 2016))
            self.assertIs(is_led(table, one, other, lead, kind=kind), True)
            self.assertIs(is_led(table, one, other, lead[::-1] + [0], kind=kind), False)

    def test_8_stocks_and_8_wishes_with_prices(self):
        monge = Table([[-i * j * GREAT for j in range(8)] for i in range(8)])
        chance = random.Random(10)
        by_rows, by_columns = Order(monge.pairs()), Order([(i, j) for j in range(8) for i in range(8)])
        orders = [by_rows, by_columns] + [some_right_order(monge, "even", chance) for _ in range(2)]
        for one, other in itertools.permutations(orders, 2):
            lead, now = led(monge, one, other), one
            self.assertEqual(len(lead), unlike(one, other))
            self.assertIs(is_led(monge, one, other, lead), True)
            for at, k in enumerate(lead):
                now = now.exchanged(k)
                if at % 40 == 0:
                    self.assertIs(is_right(monge, now), True)
            self.assertEqual(now, other)

    def test_the_returned_list_is_a_new_one(self):
        led(TABLE, ONE, OTHER).clear()
        self.assertEqual(len(led(TABLE, ONE, OTHER)), 4)
        self.assertIsNot(led(TABLE, ONE, OTHER), led(TABLE, ONE, OTHER))


class IsLed(Checks):
    def test_against_all_lists_of_exchanges(self):
        over_wrong = several = 0
        for rows in ([[4, 1], [2, 3]], [[1, 2], [2, 1]], [[0, 0], [0, None]], [[0, 1, 0]], [[2], [1], [1]], [[0, 0], [0, 0]]):
            table = Table(rows)
            for kind in KINDS:
                right = right_orders(rows, kind)
                for one, other in itertools.product(right[::1 + len(right) // 5], repeat=2):
                    found, many = 0, len(disagreements(one, other))
                    if many > 5:
                        continue
                    for value in itertools.product(range(-1, len(table)), repeat=many):
                        plain = plain_is_led(right, one, other, list(value))
                        self.assertIs(is_led(table, Order(one), Order(other), list(value), kind=kind), plain)
                        found += plain
                        end = one
                        for k in value:
                            end = exchanged(end, k) if 0 <= k < len(end) - 1 else []
                        over_wrong += end == other and not plain
                    self.assertGreater(found, 0)
                    several += found > 1
        self.assertGreater(over_wrong, 10)
        self.assertGreater(several, 10)

    def test_an_order_on_the_way_that_is_not_right(self):
        other = Order([(1, 0), (0, 0), (0, 1), (1, 1)])
        self.assertEqual((unlike(ONE, other), is_right(TABLE, ONE), is_right(TABLE, other)), (3, True, True))
        for value, right in [([0, 1, 0], False), ([1, 0, 1], True)]:
            now = ONE
            for k in value:
                now = now.exchanged(k)
            self.assertEqual(now, other)
            self.assertIs(is_right(TABLE, ONE.exchanged(value[0])), right)
            self.assertIs(is_led(TABLE, ONE, other, value), right)
        self.assertIs(is_led(TABLE, other, ONE, [0, 1, 0]), False)
        self.assertIs(is_led(TABLE, other, ONE, [1, 0, 1]), True)

    def test_a_longer_list_is_no_lead(self):
        lead = led(TABLE, ONE, OTHER)
        for k in range(3):
            self.assertIs(is_led(TABLE, ONE, OTHER, lead + [k, k]), False)
            self.assertIs(is_led(TABLE, ONE, OTHER, [k, k] + lead), False)
        self.assertIs(is_led(TABLE, ONE, OTHER, lead[:-1]), False)
        self.assertIs(is_led(TABLE, ONE, OTHER, lead[1:]), False)
        self.assertIs(is_led(TABLE, ONE, OTHER, []), False)
        self.assertIs(is_led(TABLE, ONE, ONE, lead + lead[::-1]), False)

    def test_any_value(self):
        lead = led(TABLE, ONE, OTHER)
        self.assertIs(is_led(TABLE, ONE, OTHER, lead), True)
        for value in NOT_LISTS + NOT_INTEGERS + [tuple(lead), dict.fromkeys(lead), set(lead), str(lead), [lead], [[lead]],
                                                 [str(k) for k in lead], [float(k) for k in lead], lead + [None], "".join,
                                                 [[[[[[[[0]]]]]]]], ((((((((0,),),),),),),),), ONE, TABLE]:
            self.assertIs(is_led(TABLE, ONE, OTHER, value), False, repr(value))
        for entry in NOT_INTEGERS + [-1, 3, 4, GREAT, -GREAT, -3]:
            for at in range(len(lead)):
                self.assertIs(is_led(TABLE, ONE, OTHER, lead[:at] + [entry] + lead[at + 1:]), False, repr(entry))
        row, one, other = Table([[0, 0, 0]]), Order([(0, 0), (0, 1), (0, 2)]), Order([(0, 0), (0, 2), (0, 1)])
        self.assertIs(is_led(row, one, other, [1]), True)
        self.assertIs(is_led(row, one, other, [True]), False)
        self.assertIs(is_led(row, one, other, [-1]), False)
        self.assertIs(is_led(row, Order([(0, 1), (0, 0), (0, 2)]), one, [False]), False)

    def test_the_value_stays(self):
        lead = led(TABLE, ONE, OTHER)
        value = list(lead)
        is_led(TABLE, ONE, OTHER, value)
        self.assertEqual(value, lead)
        self.assertEqual((ONE.pairs()[0], OTHER.pairs()[0]), ((0, 1), (1, 0)))


class Refusing(Checks):
    def test_orders_of_other_pairs(self):
        table = Table([[1, None], [2, 3]])
        good = Order([(1, 0), (0, 0), (1, 1)])
        for pairs in ([], [(0, 0)], [(0, 0), (1, 0)], [(0, 0), (1, 0), (0, 1)], [(0, 0), (1, 0), (1, 1), (0, 1)],
                      [(0, 0), (1, 0), (7, 7)], [(0, 0), (1, 0), (1, 1), (2, 2)]):
            for kind in ("even", "any", "odd", None):
                for one, other in [(Order(pairs), good), (good, Order(pairs)), (Order(pairs), Order(pairs))]:
                    self.refuses(InvalidOrder, {"at": -1}, led, table, one, other, kind=kind)
                    self.refuses(InvalidOrder, {"at": -1}, is_led, table, one, other, [], kind=kind)
                    self.refuses(InvalidOrder, {"at": -1}, is_led, table, one, other, None, kind=kind)
        # An order of other pairs is refused before one that is not right.
        self.refuses(InvalidOrder, {"at": -1}, led, TABLE, NOT_RIGHT, good)

    def test_the_kind_comes_before_not_right(self):
        for kind in WRONG_KINDS:
            for one, other in [(ONE, OTHER), (NOT_RIGHT, OTHER), (ONE, NOT_RIGHT)]:
                self.refuses(InvalidBound, {"name": "kind"}, led, TABLE, one, other, kind=kind)
                self.refuses(InvalidBound, {"name": "kind"}, is_led, TABLE, one, other, [0], kind=kind)

    def test_not_right(self):
        fault, fault_too = first_fault(TABLE, NOT_RIGHT), first_fault(TABLE, NOT_RIGHT_TOO)
        self.assertNotEqual(fault, fault_too)
        for one, other, told in [(NOT_RIGHT, ONE, fault), (ONE, NOT_RIGHT, fault), (NOT_RIGHT, NOT_RIGHT_TOO, fault),
                                 (NOT_RIGHT_TOO, NOT_RIGHT, fault_too), (NOT_RIGHT_TOO, ONE, fault_too)]:
            self.refuses(NotRight, {"fault": told}, led, TABLE, one, other)
            for value in ([], None, [0], "lead"):
                self.refuses(NotRight, {"fault": told}, is_led, TABLE, one, other, value)

    def test_not_right_for_the_kind(self):
        for rows in small_tables(12, 4):
            table, chance = Table(rows), random.Random(1)
            orders = [chance.sample(pairs_of(rows), len(pairs_of(rows))) for _ in range(4)]
            for one, other in itertools.product(orders, repeat=2):
                for kind in KINDS:
                    plain = plain_faults(rows, one, kind) + plain_faults(rows, other, kind)
                    if plain:
                        self.refuses(NotRight, {"fault": plain[0]}, led, table, Order(one), Order(other), kind=kind)
                        self.refuses(NotRight, {"fault": plain[0]}, is_led, table, Order(one), Order(other), [], kind=kind)

    def test_by_names(self):
        lead = led(kind="even", other=OTHER, one=ONE, table=TABLE)
        self.assertIs(is_led(value=lead, kind="even", other=OTHER, one=ONE, table=TABLE), True)
        for work, args in [(led, (TABLE, ONE, OTHER)), (is_led, (TABLE, ONE, OTHER, []))]:
            with self.assertRaises(TypeError):
                work(*args, "any")

    def test_tables_with_barred_cells(self):
        tried, chance = 0, random.Random(2)
        for seed, kind in itertools.product(range(12), KINDS):
            rows, orders = some_rows(seed, 6, 6, -3, 3, 0.6), []
            table = Table(rows)
            for _ in range(4):
                placed, free = [], may_stand(table, [], kind=kind)
                while free:
                    placed.append(chance.choice(free))
                    free = may_stand(table, placed, kind=kind)
                if len(placed) == len(table):
                    orders.append(Order(placed))
            for one, other in itertools.permutations(orders, 2):
                lead = led(table, one, other, kind=kind)
                self.assertIs(is_led(table, one, other, lead, kind=kind), True)
                now = one
                for k in lead:
                    now = now.exchanged(k)
                    self.assertEqual(plain_faults(rows, now.pairs(), kind), [])
                self.assertEqual((now, len(lead)), (other, unlike(one, other)))
                tried += 1
        self.assertGreater(tried, 10)


if __name__ == "__main__":
    unittest.main()
