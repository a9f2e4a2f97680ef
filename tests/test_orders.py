"""Points 4.1 to 4.4, and 0.3 to 0.12 as far as they speak of orders: pairorder/orders.py."""

import itertools
import operator
import unittest

from pairorder.errors import InvalidBound, InvalidOrder, InvalidPair
from pairorder.orders import Order
from values import GREAT, NOT_INTEGERS, NOT_LISTS, NOT_TWOS, Checks

PAIRS = [(0, 1), (1, 0), (2, 2)]
ALL = [(i, j) for i in range(8) for j in range(8)]


class Creating(Checks):
    def test_orders_of_0_to_64_pairs(self):
        for many in range(65):
            order = Order(ALL[:many])
            self.assertEqual((len(order), order.pairs()), (many, ALL[:many]))
        self.assertEqual(Order(ALL[::-1]).pairs(), ALL[::-1])

    def test_what_is_not_a_list_of_at_most_64_entries(self):
        for value in NOT_LISTS + [ALL + [(0, 0)], [(0, 0)] * 65, [None] * 65, tuple(PAIRS), dict.fromkeys(PAIRS)]:
            self.refuses(InvalidOrder, {"at": -1}, Order, value)

    def test_64_wrong_entries(self):
        self.refuses(InvalidOrder, {"at": 0}, Order, [None] * 64)
        self.refuses(InvalidOrder, {"at": 1}, Order, [(0, 0)] * 64)
        self.refuses(InvalidOrder, {"at": 63}, Order, ALL[:63] + [(0, 0)])

    def test_an_entry_that_is_not_a_tuple_of_two_integers_from_0_to_7(self):
        for entry in NOT_TWOS + [(-1, 0), (0, -1), (8, 0), (0, 8), (8, 8), (GREAT, 0), (0, -GREAT)]:
            for at in range(4):
                pairs = [(0, 1), (7, 7), (7, 0), (2, 3)]
                pairs[at] = entry
                self.refuses(InvalidOrder, {"at": at}, Order, pairs)
            self.refuses(InvalidOrder, {"at": 0}, Order, [entry])

    def test_an_entry_that_is_equal_to_an_earlier_one(self):
        self.refuses(InvalidOrder, {"at": 2}, Order, [(0, 1), (1, 0), (0, 1)])
        self.refuses(InvalidOrder, {"at": 1}, Order, [(3, 3), (3, 3), (3, 3)])
        self.refuses(InvalidOrder, {"at": 3}, Order, [(0, 0), (0, 1), (0, 2), (0, 2)])

    def test_the_first_wrong_entry_counts(self):
        self.refuses(InvalidOrder, {"at": 1}, Order, [(0, 0), (0, 0), (9, 9)])
        self.refuses(InvalidOrder, {"at": 1}, Order, [(0, 0), (9, 9), (0, 0)])
        self.refuses(InvalidOrder, {"at": 0}, Order, [[0, 0], [0, 0]])

    def test_by_name(self):
        self.assertEqual(Order(pairs=[(1, 1)]).pairs(), [(1, 1)])

    def test_later_changes_have_no_effect(self):
        pairs = list(PAIRS)
        order = Order(pairs)
        pairs.reverse()
        pairs.append((5, 5))
        order.pairs().clear()
        order.pairs()[0] = None
        self.assertEqual((order.pairs(), len(order), order[0]), (PAIRS, 3, (0, 1)))
        self.assertIsNot(order.pairs(), order.pairs())

    def test_passed_pairs_stay_as_they_are(self):
        pairs = [(0, 0), (1, 1), [2, 2]]
        self.refuses(InvalidOrder, {"at": 2}, Order, pairs)
        self.assertEqual(pairs, [(0, 0), (1, 1), [2, 2]])


class Asking(Checks):
    def test_the_index(self):
        order = Order(ALL)
        for k in range(64):
            self.assertEqual(order[k], ALL[k])

    def test_wrong_indexes(self):
        for k in NOT_INTEGERS + [3, 4, -1, -3, GREAT, -GREAT, (0, 1), slice(0, 2)]:
            self.refuses(InvalidBound, {"name": "index"}, operator.getitem, Order(PAIRS), k)
        for k in NOT_INTEGERS + [0, -1, 1]:
            self.refuses(InvalidBound, {"name": "index"}, operator.getitem, Order([]), k)
        self.refuses(InvalidBound, {"name": "index"}, operator.getitem, Order(ALL), 64)

    def test_in_and_place(self):
        order = Order(PAIRS)
        for pair in ALL:
            self.assertIs(pair in order, pair in PAIRS)
        self.assertEqual([order.place(pair) for pair in PAIRS], [0, 1, 2])
        self.assertEqual([Order(ALL).place(pair) for pair in ALL], list(range(64)))
        self.assertEqual(order.place(pair=(1, 0)), 1)

    def test_values_that_are_not_in_it(self):
        order = Order([(0, 0), (0, 1), (1, 0), (1, 1)])
        for value in NOT_TWOS + [(0, 2), (2, 0), (-1, 0), (8, 8), (GREAT, -GREAT)]:
            self.assertIs(value in order, False)
            self.refuses(InvalidPair, {"pair": value}, order.place, value)
            self.assertIs(value in Order([]), False)
            self.refuses(InvalidPair, {"pair": value}, Order([]).place, value)

    def test_the_error_has_its_own_copy(self):
        inner = [0]
        error = self.refuses(InvalidPair, {"pair": ([0], 0)}, Order([]).place, (inner, 0))
        inner.append(1)
        self.assertEqual(error.pair, ([0], 0))

    def test_iterating_raises_a_type_error(self):
        for order in (Order(PAIRS), Order([])):
            for work in (iter, list, tuple, set, sorted, dict, enumerate, lambda held: [*held],
                         lambda held: [0 for _ in held], lambda held: max(held)):
                with self.assertRaises(TypeError):
                    work(order)

    def test_an_item_is_not_assigned(self):
        order = Order(PAIRS)
        with self.assertRaises(TypeError):
            order[0] = (5, 5)
        self.assertEqual(order.pairs(), PAIRS)


class Changing(Checks):
    def test_exchanged(self):
        order = Order(PAIRS)
        self.assertEqual(order.exchanged(0).pairs(), [(1, 0), (0, 1), (2, 2)])
        self.assertEqual(order.exchanged(1).pairs(), [(0, 1), (2, 2), (1, 0)])
        self.assertEqual(order.exchanged(k=0).exchanged(k=0), order)
        self.assertEqual(order.pairs(), PAIRS)
        self.assertEqual(Order(ALL).exchanged(62).pairs(), ALL[:62] + [ALL[63], ALL[62]])

    def test_exchanged_refuses(self):
        for k in NOT_INTEGERS + [2, 3, -1, -2, GREAT, -GREAT]:
            self.refuses(InvalidBound, {"name": "index"}, Order(PAIRS).exchanged, k)
        for k in NOT_INTEGERS + [0, -1, 1]:
            self.refuses(InvalidBound, {"name": "index"}, Order([]).exchanged, k)
            self.refuses(InvalidBound, {"name": "index"}, Order([(4, 4)]).exchanged, k)

    def test_moved(self):
        pairs = [(0, 0), (3, 1), (2, 2), (0, 5)]
        for pair in pairs:
            for place in range(4):
                moved = Order(pairs).moved(pair, place)
                self.assertEqual(moved.place(pair), place)
                self.assertEqual([other for other in moved.pairs() if other != pair],
                                 [other for other in pairs if other != pair])
        self.assertEqual(Order(PAIRS).moved((2, 2), 0).pairs(), [(2, 2), (0, 1), (1, 0)])
        self.assertEqual(Order(PAIRS).moved((0, 1), 2).pairs(), [(1, 0), (2, 2), (0, 1)])
        self.assertEqual(Order(PAIRS).moved(place=1, pair=(1, 0)), Order(PAIRS))
        self.assertEqual(Order([(6, 6)]).moved((6, 6), 0).pairs(), [(6, 6)])

    def test_moved_leaves_the_order(self):
        order = Order(PAIRS)
        order.moved((0, 1), 2)
        self.assertIsNot(order.moved((0, 1), 0), order)
        self.assertEqual(order.pairs(), PAIRS)

    def test_moved_refuses(self):
        order = Order(PAIRS)
        for value in NOT_TWOS + [(0, 2), (-1, 0), (8, 8)]:
            self.refuses(InvalidPair, {"pair": value}, order.moved, value, 0)
            self.refuses(InvalidPair, {"pair": value}, order.moved, value, None)
        for place in NOT_INTEGERS + [3, -1, -3, GREAT, -GREAT]:
            self.refuses(InvalidBound, {"name": "place"}, order.moved, (0, 1), place)
        self.refuses(InvalidPair, {"pair": (0, 0)}, Order([]).moved, (0, 0), 0)
        self.assertEqual(order.pairs(), PAIRS)

    def test_turned(self):
        order = Order([(0, 1), (1, 0), (2, 7)])
        self.assertEqual(order.turned().pairs(), [(1, 0), (0, 1), (7, 2)])
        self.assertEqual(order.turned().turned(), order)
        self.assertEqual(order.pairs(), [(0, 1), (1, 0), (2, 7)])
        self.assertEqual(Order([]).turned(), Order([]))

    def test_the_examples(self):
        order = Order([(0, 1), (1, 0), (2, 2)])
        self.assertEqual([order.exchanged(1).pairs(), order.moved((2, 2), 0).pairs(), order.place((1, 0))],
                         [[(0, 1), (2, 2), (1, 0)], [(2, 2), (0, 1), (1, 0)], 1])
        self.refuses(InvalidOrder, {"at": 2}, Order, [(0, 1), (1, 0), (0, 1)])


class Comparing(Checks):
    def test_as_the_lists_of_pairs(self):
        few = [(0, 0), (0, 1), (1, 0)]
        lists = [list(pairs) for many in range(4) for pairs in itertools.permutations(few, many)]
        for one in lists:
            for other in lists:
                for work in (operator.eq, operator.ne, operator.lt, operator.le, operator.gt, operator.ge):
                    self.assertIs(work(Order(one), Order(other)), work(one, other), (work, one, other))

    def test_sorted(self):
        few = [(2, 1), (0, 7), (1, 0)]
        orders = [Order(list(pairs)) for pairs in itertools.permutations(few)]
        self.assertEqual([order.pairs() for order in sorted(orders)],
                         sorted(list(pairs) for pairs in itertools.permutations(few)))


if __name__ == "__main__":
    unittest.main()
