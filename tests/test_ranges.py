"""Points 12.1 to 12.4, and 0.4 to 0.10 as far as they speak of them: pairorder/ranges.py."""

import itertools
import random
import unittest

from pairorder.errors import InvalidBound, InvalidOrder, InvalidPair, NotRight
from pairorder.kinds import KINDS
from pairorder.nexts import may_stand
from pairorder.orders import Order
from pairorder.ranges import price_range, slack, steady
from pairorder.right import first_fault, is_right
from pairorder.tables import Table
from plain import pairs_of, plain_faults, right_orders, small_tables, some_rows
from values import GREAT, NOT_TWOS, WRONG_KINDS, Checks

TABLE = Table([[4, 1], [2, 3]])
ORDER = Order([(0, 1), (1, 0), (0, 0), (1, 1)])
NOT_RIGHT = Order([(0, 0), (0, 1), (1, 0), (1, 1)])


def plain_margins(rows, pairs, kind):
    """Point 12.1: the margins of crosses, and the other margins."""
    crosses, others = [], []
    for k, (i, j) in enumerate(pairs):
        later = pairs[k + 1:]
        columns = [r for r in range(len(rows)) if r != i and (r, j) in later]
        lines = [s for s in range(len(rows[0])) if s != j and (i, s) in later]
        crosses.extend(rows[i][s] + rows[r][j] - rows[i][j] - rows[r][s]
                       for r in columns for s in lines if rows[r][s] is not None)
        if kind in ("stock", "any"):
            others.extend(rows[r][j] - rows[i][j] for r in columns)
        if kind in ("wish", "any"):
            others.extend(rows[i][s] - rows[i][j] for s in lines)
    return crosses, others


def changed(rows, pairs, adds):
    """The rows with a number added to the price of each pair."""
    rows = [list(row) for row in rows]
    for (i, j), add in zip(pairs, adds):
        rows[i][j] += add
    return rows


def is_steady(rows, order, kind, most):
    """Whether an order stays right when each price changes by `most`, by `-most` or not at all."""
    pairs = pairs_of(rows)
    return not any(plain_faults(changed(rows, pairs, adds), order, kind)
                   for adds in itertools.product((most, -most, 0), repeat=len(pairs)))


def priced(rows, pair, price):
    rows = [list(row) for row in rows]
    rows[pair[0]][pair[1]] = price
    return rows


def some_right_orders(count, most_pairs=9):
    """Rows, a kind and a right order for it, many times."""
    chance = random.Random(count)
    for rows in small_tables(count, most_pairs):
        for kind in KINDS:
            for _ in range(2):
                placed, free = [], may_stand(Table(rows), [], kind=kind)
                while free:
                    placed.append(chance.choice(free))
                    free = may_stand(Table(rows), placed, kind=kind)
                if len(placed) == len(pairs_of(rows)):
                    yield rows, kind, placed


class Margins(Checks):
    def test_the_example(self):
        self.assertEqual([slack(TABLE, ORDER), steady(TABLE, ORDER), price_range(TABLE, ORDER, (0, 0)),
                          price_range(TABLE, ORDER, (0, 1))], [4, 1, (0, None), (None, 5)])

    def test_against_the_plain_margins(self):
        none = both = 0
        for rows, kind, order in some_right_orders(60):
            crosses, others = plain_margins(rows, order, kind)
            least = min(crosses + others, default=None)
            shares = [margin // 4 for margin in crosses] + [margin // 2 for margin in others]
            self.assertEqual(slack(Table(rows), Order(order), kind=kind), least)
            self.assertEqual(steady(Table(rows), Order(order), kind=kind), min(shares, default=None))
            self.assertTrue(least is None or least >= 0)
            none += least is None
            both += bool(shares) and min(crosses, default=0) // 4 != min(shares)
        self.assertGreater(none, 10)
        self.assertGreater(both, 10)

    def test_steady_by_trying_the_ends(self):
        """Point 12.2."""
        least = 0
        for rows, kind, order in some_right_orders(40, 4):
            most = steady(Table(rows), Order(order), kind=kind)
            if most is None:
                self.assertIs(is_steady(rows, order, kind, 50), True)
            else:
                self.assertIs(is_steady(rows, order, kind, most), True)
                self.assertIs(is_steady(rows, order, kind, most + 1), False)
                least += most > 0
        for rows in ([[9, 1], [2, 14]], [[0, 7], [9, 30]], [[3, 20, None], [30, 1, 9]]):
            for kind in KINDS:
                for order in right_orders(rows, kind)[:5]:
                    most = steady(Table(rows), Order(order), kind=kind)
                    self.assertIs(is_steady(rows, order, kind, most), True)
                    self.assertIs(is_steady(rows, order, kind, most + 1), False)
                    least += most > 0
        self.assertGreater(least, 10)

    def test_rounding_down(self):
        order = [(0, 0), (0, 1), (1, 0), (1, 1)]
        for margin in range(13):
            table = Table([[0, 0], [0, -margin]])
            self.assertEqual(slack(table, Order(order)), margin)
            self.assertEqual(steady(table, Order(order)), margin // 4)
            row = Table([[-margin, 0]])
            self.assertEqual((slack(row, Order([(0, 0), (0, 1)]), kind="wish"), margin), (margin, margin))
            self.assertEqual(steady(row, Order([(0, 0), (0, 1)]), kind="wish"), margin // 2)
            self.assertEqual(steady(row.turned(), Order([(0, 0), (1, 0)]), kind="any"), margin // 2)

    def test_the_lesser_one_of_both_shares_counts(self):
        order = Order([(0, 0), (0, 1), (1, 0), (1, 1)])
        table = Table([[0, 3], [5, 0]])
        self.assertEqual(slack(table, order), 8)
        self.assertEqual(steady(table, order), 2)
        # A column has the margin 5 - 0, which is less than 8, but its half is not.
        higher = Table([[0, 7], [5, 0]])
        self.assertIs(is_right(higher, Order([(0, 0), (1, 1), (1, 0), (0, 1)]), kind="stock"), True)
        self.assertEqual(slack(higher, Order([(0, 0), (1, 1), (1, 0), (0, 1)]), kind="stock"), 5)
        self.assertEqual(steady(higher, Order([(0, 0), (1, 1), (1, 0), (0, 1)]), kind="stock"), 2)
        self.assertEqual(steady(higher, Order([(0, 0), (1, 1), (1, 0), (0, 1)])), 3)

    def test_no_margin(self):
        for table in (Table([[None]]), Table.filled(8, 8, None), Table([[7]]), Table([[3, None], [None, -2]])):
            for kind in KINDS:
                order = Order(table.pairs())
                self.assertIsNone(slack(table, order, kind=kind))
                self.assertIsNone(steady(table, order, kind=kind))
                for pair in table.pairs():
                    self.assertEqual(price_range(table, order, pair, kind=kind), (None, None))
        for kind, found in [("even", None), ("stock", None), ("wish", 1), ("any", 1)]:
            self.assertEqual(slack(Table([[3, 1, 2]]), Order([(0, 1), (0, 2), (0, 0)]), kind=kind), found)
        for kind, found in [("even", None), ("stock", 1), ("wish", None), ("any", 1)]:
            self.assertEqual(slack(Table([[3], [1], [2]]), Order([(1, 0), (2, 0), (0, 0)]), kind=kind), found)

    def test_a_barred_cell_has_no_margin(self):
        # The pair (0, 1) stands ahead of one neighbour only, and across from (0, 0) is a barred cell.
        table = Table([[5, 0], [0, None]])
        order = Order([(0, 1), (0, 0), (1, 0)])
        self.assertEqual((slack(table, order), steady(table, order)), (None, None))
        self.assertEqual((slack(table, order, kind="wish"), steady(table, order, kind="wish")), (5, 2))

    def test_great_numbers(self):
        order = Order([(0, 1), (1, 0), (0, 0), (1, 1)])
        table = Table([[GREAT, -GREAT], [-GREAT, GREAT]])
        self.assertEqual((slack(table, order), steady(table, order)), (4 * GREAT, GREAT))
        self.assertEqual((slack(table, order, kind="any"), steady(table, order, kind="any")), (2 * GREAT, GREAT))
        self.assertEqual(price_range(table, order, (0, 0)), (-3 * GREAT, None))
        self.assertEqual(price_range(table, order, (0, 1)), (None, 3 * GREAT))

    def test_8_stocks_and_8_wishes(self):
        rows = [[-i * j * 10 for j in range(8)] for i in range(8)]
        table, order = Table(rows), Order(pairs_of(rows))
        self.assertEqual((slack(table, order), steady(table, order)), (10, 2))
        low, high = price_range(table, order, (3, 4))
        self.assertEqual((low, high), (-130, -110))
        for kind in KINDS:
            flat = Table.filled(8, 8, -GREAT)
            self.assertEqual((slack(flat, order, kind=kind), steady(flat, order, kind=kind)), (0, 0))
            self.assertEqual(price_range(flat, order, (3, 3), kind=kind), (-GREAT, -GREAT))

    def test_the_default_is_even(self):
        self.assertEqual(slack(TABLE, ORDER), slack(TABLE, ORDER, kind="even"))
        order = Order([(0, 1), (1, 0), (1, 1), (0, 0)])
        self.assertEqual([slack(TABLE, order, kind=kind) for kind in KINDS], [4, 2, 1, 1])
        self.assertEqual((slack(TABLE, order), steady(TABLE, order)), (4, 1))
        self.assertEqual(price_range(TABLE, order, (1, 1)), (-1, None))
        self.assertEqual(price_range(TABLE, order, (1, 1), kind="any"), (2, None))


class PriceRange(Checks):
    def test_by_trying_the_ends(self):
        """Point 12.3."""
        bounded = {(True, True): 0, (True, False): 0, (False, True): 0, (False, False): 0}
        for rows, kind, order in some_right_orders(40, 6):
            table = Table(rows)
            for pair in pairs_of(rows):
                low, high = price_range(table, Order(order), pair, kind=kind)
                self.assertIsInstance(price_range(table, Order(order), pair, kind=kind), tuple)
                now = rows[pair[0]][pair[1]]
                inside = [now, low if low is not None else now - 1000, high if high is not None else now + 1000]
                outside = [end for end in (None if low is None else low - 1, None if high is None else high + 1)
                           if end is not None]
                for price in inside:
                    self.assertEqual(plain_faults(priced(rows, pair, price), order, kind), [])
                    self.assertIs(is_right(table.with_price(pair, price), Order(order), kind=kind), True)
                for price in outside:
                    self.assertNotEqual(plain_faults(priced(rows, pair, price), order, kind), [])
                bounded[low is not None, high is not None] += 1
        self.assertGreater(min(bounded.values()), 20)

    def test_by_trying_all_prices(self):
        for rows, kind, order in itertools.islice(some_right_orders(30, 5), 60):
            for pair in pairs_of(rows):
                low, high = price_range(Table(rows), Order(order), pair, kind=kind)
                for price in range(-12, 13):
                    inside = (low is None or low <= price) and (high is None or price <= high)
                    self.assertIs(not plain_faults(priced(rows, pair, price), order, kind), inside)

    def test_the_bound_0_is_a_bound(self):
        self.assertEqual(price_range(Table([[0, 0]]), Order([(0, 0), (0, 1)]), (0, 0), kind="wish"), (None, 0))
        self.assertEqual(price_range(Table([[0, 0]]), Order([(0, 0), (0, 1)]), (0, 1), kind="wish"), (0, None))
        self.assertEqual(price_range(Table([[0, 0]]), Order([(0, 0), (0, 1)]), (0, 1)), (None, None))

    def test_the_nearest_bound_on_each_side(self):
        table = Table([[1], [5], [7], [12]])
        order = Order([(0, 0), (1, 0), (2, 0), (3, 0)])
        self.assertEqual([price_range(table, order, (i, 0), kind="stock") for i in range(4)],
                         [(None, 5), (1, 7), (5, 12), (7, None)])
        self.assertEqual([price_range(table, order, (i, 0), kind="wish") for i in range(4)], [(None, None)] * 4)


class Refusing(Checks):
    def all(self, error_class, told, table, order, pair=(0, 0), **more):
        self.refuses(error_class, told, slack, table, order, **more)
        self.refuses(error_class, told, steady, table, order, **more)
        self.refuses(error_class, told, price_range, table, order, pair, **more)

    def test_orders_of_other_pairs(self):
        table = Table([[1, None], [2, 3]])
        for pairs in ([], [(0, 0)], [(0, 0), (1, 0)], [(0, 0), (1, 0), (0, 1)], [(0, 0), (1, 0), (1, 1), (0, 1)],
                      [(0, 0), (1, 0), (7, 7)], [(0, 0), (1, 0), (1, 1), (2, 2)]):
            for kind in ("even", "any", "odd", None):
                for pair in ((0, 0), (0, 1), None):
                    self.all(InvalidOrder, {"at": -1}, table, Order(pairs), pair, kind=kind)

    def test_wrong_kinds(self):
        for kind in WRONG_KINDS:
            for order in (ORDER, NOT_RIGHT):
                for pair in ((0, 0), (0, 2), None):
                    self.all(InvalidBound, {"name": "kind"}, TABLE, order, pair, kind=kind)

    def test_wrong_pairs_before_not_right(self):
        table = Table([[4, 1], [2, 3], [None, 0]])
        good, bad = Order([(2, 1), (0, 1), (1, 0), (0, 0), (1, 1)]), Order([(2, 1), (0, 0), (0, 1), (1, 0), (1, 1)])
        self.assertEqual([is_right(table, good), is_right(table, bad)], [True, False])
        for pair in NOT_TWOS + [(2, 0), (3, 0), (0, 2), (-1, 0), (0, -1), (GREAT, 0)]:
            for order in (good, bad):
                self.refuses(InvalidPair, {"pair": pair}, price_range, table, order, pair)

    def test_not_right(self):
        self.all(NotRight, {"fault": ("cross", (0, 0), (1, 1))}, TABLE, NOT_RIGHT)
        for rows in small_tables(15, 4):
            for pairs in itertools.permutations(pairs_of(rows)):
                for kind in KINDS:
                    plain = plain_faults(rows, list(pairs), kind)
                    if plain:
                        self.all(NotRight, {"fault": plain[0]}, Table(rows), Order(list(pairs)), pairs[0], kind=kind)
        order = Order([(0, 1), (0, 0), (1, 0), (1, 1)])
        self.all(NotRight, {"fault": first_fault(TABLE, order, kind="any")}, TABLE, order, kind="any")
        self.assertEqual(slack(TABLE, order), 4)

    def test_the_pair_that_is_refused_is_a_copy(self):
        pair = ([0], [[1]])
        error = self.refuses(InvalidPair, {"pair": ([0], [[1]])}, price_range, TABLE, ORDER, pair)
        pair[1][0].append(5)
        self.assertEqual(error.pair, ([0], [[1]]))

    def test_by_names(self):
        self.assertEqual(slack(kind="even", order=ORDER, table=TABLE), 4)
        self.assertEqual(steady(kind="even", order=ORDER, table=TABLE), 1)
        self.assertEqual(price_range(kind="even", pair=(0, 0), order=ORDER, table=TABLE), (0, None))
        for work, args in [(slack, (TABLE, ORDER)), (steady, (TABLE, ORDER)), (price_range, (TABLE, ORDER, (0, 0)))]:
            with self.assertRaises(TypeError):
                work(*args, "any")

    def test_nothing_is_changed(self):
        rows = some_rows(1, 3, 3, barred=0.0)
        for kind in KINDS:
            for order in right_orders([row[:2] for row in rows[:2]], kind)[:2]:
                table, held = Table([row[:2] for row in rows[:2]]), Order(order)
                first = (slack(table, held, kind=kind), price_range(table, held, (0, 0), kind=kind))
                self.assertEqual((slack(table, held, kind=kind), price_range(table, held, (0, 0), kind=kind)), first)
                self.assertEqual((held.pairs(), table.rows()), (order, [row[:2] for row in rows[:2]]))


if __name__ == "__main__":
    unittest.main()
