"""Points 8.1 to 8.7, and 0.6 to 0.10 as far as they speak of them: pairorder/nexts.py."""

import itertools
import random
import unittest

from pairorder.errors import InvalidBound, InvalidOrder, InvalidPair, NoOrder
from pairorder.kinds import KINDS
from pairorder.nexts import bar_of, has_order, is_stuck, least_order, may_stand, stuck
from pairorder.orders import Order
from pairorder.right import is_right
from pairorder.tables import Table
from plain import faults_behind, may_follow, pairs_of, right_orders, small_tables, some_rows, stuck_sets
from values import GREAT, NOT_LISTS, NOT_TWOS, WRONG_KINDS, Checks

TABLE = Table([[4, 1], [2, 3]])
STUCK_ROWS = [[0, 0, None], [None, 0, 0], [0, None, 0]]
STUCK = [(0, 0), (0, 1), (1, 1), (1, 2), (2, 0), (2, 2)]


def some_placed(rows, seed, count=8):
    """Some lists of placed pairs, in any sequence: none, all, and others by chance."""
    chance, pairs = random.Random(seed), pairs_of(rows)
    return [[], pairs] + [chance.sample(pairs, chance.randint(0, len(pairs))) for _ in range(count)]


class MayStand(Checks):
    def test_the_examples(self):
        self.assertEqual([may_stand(TABLE, []), may_stand(TABLE, [(0, 1)]), least_order(TABLE).pairs()],
                         [[(0, 1), (1, 0)], [(0, 0), (1, 0), (1, 1)], [(0, 1), (0, 0), (1, 0), (1, 1)]])
        self.assertEqual(bar_of(TABLE, [(0, 1)], (1, 1), kind="any"), ("row", (1, 1), (1, 0)))

    def test_against_a_plain_search(self):
        for seed, rows in enumerate(small_tables(50, 9)):
            table, pairs = Table(rows), pairs_of(rows)
            for placed in some_placed(rows, seed):
                before = list(placed)
                for kind in KINDS:
                    free = [pair for pair in pairs if pair not in placed and may_follow(rows, placed, pair, kind)]
                    self.assertEqual(may_stand(table, placed, kind=kind), free)
                    for pair in pairs:
                        if pair not in placed:
                            bars = faults_behind(rows, pair, kind, lambda other: other not in placed)
                            self.assertEqual(bar_of(table, placed, pair, kind=kind), bars[0] if bars else None)
                self.assertEqual(may_stand(table, placed), may_stand(table, placed, kind="even"))
                self.assertEqual(placed, before)

    def test_bar_of_has_the_default_even(self):
        self.assertIsNone(bar_of(TABLE, [(0, 1)], (1, 1)))
        self.assertEqual(bar_of(TABLE, [], (1, 1)), ("cross", (1, 1), (0, 0)))

    def test_the_first_tuple_that_bars(self):
        table = Table([[5, 1, 2], [3, 9, None], [4, None, 9]])
        self.assertEqual(bar_of(table, [], (0, 0), kind="any"), ("cross", (0, 0), (1, 1)))
        self.assertEqual(bar_of(table, [(0, 1)], (0, 0), kind="any"), ("cross", (0, 0), (1, 2)))
        self.assertEqual(bar_of(table, [(0, 1), (0, 2)], (0, 0), kind="any"), ("column", (0, 0), (1, 0)))
        self.assertEqual(bar_of(table, [(0, 1), (0, 2), (1, 0)], (0, 0), kind="any"), ("column", (0, 0), (2, 0)))
        self.assertEqual(bar_of(table, [(1, 0), (2, 0)], (0, 0), kind="any"), ("row", (0, 0), (0, 1)))
        self.assertEqual(bar_of(table, [(1, 0), (2, 0), (0, 1)], (0, 0), kind="wish"), ("row", (0, 0), (0, 2)))
        self.assertIsNone(bar_of(table, [(1, 0), (2, 0)], (0, 0), kind="stock"))
        self.assertIsNone(bar_of(table, [(0, 1), (0, 2)], (0, 0), kind="wish"))

    def test_all_placed_and_no_pairs(self):
        self.assertEqual(may_stand(TABLE, TABLE.pairs()[::-1]), [])
        self.assertEqual(may_stand(Table.filled(2, 2, None), []), [])
        self.assertEqual(may_stand(Table([[7]]), [], kind="any"), [(0, 0)])

    def test_the_sequence_of_placed_does_not_matter(self):
        rows = some_rows(9, 3, 3, barred=0.2)
        for placed in itertools.permutations(pairs_of(rows)[:4]):
            self.assertEqual(may_stand(Table(rows), list(placed)), may_stand(Table(rows), pairs_of(rows)[:4]))

    def test_placed_pairs_need_not_begin_a_right_order(self):
        # That (0, 0) is placed does not free (1, 1) from the cross of the two.
        self.assertEqual(may_stand(TABLE, [(0, 0)]), [(0, 1), (1, 0)])
        self.assertEqual(bar_of(TABLE, [(0, 0)], (1, 1)), ("cross", (1, 1), (0, 0)))
        self.assertEqual(may_stand(TABLE, [(0, 0), (1, 1)], kind="any"), [(0, 1), (1, 0)])

    def test_wrong_placed(self):
        table = Table([[1, None], [2, 3]])
        for placed in NOT_LISTS + [((0, 0),), {(0, 0): 1}, Order([(0, 0)])]:
            self.refuses(InvalidOrder, {"at": -1}, may_stand, table, placed)
            self.refuses(InvalidOrder, {"at": -1}, bar_of, table, placed, (0, 0))
        for entry in NOT_TWOS + [(0, 1), (2, 0), (0, 2), (-1, 0), (1, -1), (GREAT, 0)]:
            for at in range(3):
                placed = [(1, 1), (0, 0)]
                placed.insert(at, entry)
                self.refuses(InvalidOrder, {"at": at}, may_stand, table, placed)
                self.refuses(InvalidOrder, {"at": at}, bar_of, table, placed, (1, 0))

    def test_equal_entries(self):
        for placed, at in [([(0, 0), (0, 0)], 1), ([(0, 0), (1, 1), (0, 0)], 2), ([(1, 1), (1, 1), (9, 9)], 1),
                           ([(1, 1), (9, 9), (1, 1)], 1), ([(0, 0)] * 70, 1), (TABLE.pairs() * 2, 4)]:
            self.refuses(InvalidOrder, {"at": at}, may_stand, TABLE, placed)
            self.refuses(InvalidOrder, {"at": at}, bar_of, TABLE, placed, (0, 1))

    def test_wrong_pairs(self):
        table = Table([[1, None], [2, 3]])
        for pair in NOT_TWOS + [(0, 1), (2, 0), (0, 2), (-1, 0), (1, -1), (GREAT, 0), (1, 0)]:
            self.refuses(InvalidPair, {"pair": pair}, bar_of, table, [(1, 0)], pair)
            # The placed pairs are checked first.
            self.refuses(InvalidOrder, {"at": 1}, bar_of, table, [(1, 0), (1, 0)], pair)

    def test_the_kind_comes_first(self):
        for kind in WRONG_KINDS:
            self.refuses(InvalidBound, {"name": "kind"}, may_stand, TABLE, [], kind=kind)
            self.refuses(InvalidBound, {"name": "kind"}, may_stand, TABLE, None, kind=kind)
            self.refuses(InvalidBound, {"name": "kind"}, may_stand, TABLE, [(9, 9)], kind=kind)
            self.refuses(InvalidBound, {"name": "kind"}, bar_of, TABLE, [], (0, 0), kind=kind)
            self.refuses(InvalidBound, {"name": "kind"}, bar_of, TABLE, None, None, kind=kind)

    def test_by_names(self):
        self.assertEqual(may_stand(kind="even", placed=[], table=TABLE), [(0, 1), (1, 0)])
        self.assertIsNone(bar_of(kind="even", pair=(0, 1), placed=[], table=TABLE))
        for work, args in [(may_stand, (TABLE, [])), (bar_of, (TABLE, [], (0, 0))), (stuck, (TABLE,)),
                           (is_stuck, (TABLE, [])), (has_order, (TABLE,)), (least_order, (TABLE,))]:
            with self.assertRaises(TypeError):
                work(*args, "any")

    def test_the_returned_list_is_a_new_one(self):
        may_stand(TABLE, []).clear()
        self.assertEqual(may_stand(TABLE, []), [(0, 1), (1, 0)])
        placed = [(0, 1)]
        found = may_stand(TABLE, placed)
        placed.clear()
        self.assertEqual(found, [(0, 0), (1, 0), (1, 1)])

    def test_8_stocks_and_8_wishes(self):
        rows = some_rows(2, 8, 8, -3, 3, 0.3)
        pairs = pairs_of(rows)
        placed = random.Random(2).sample(pairs, len(pairs) // 2)
        for kind in KINDS:
            self.assertEqual(may_stand(Table(rows), placed, kind=kind),
                             [pair for pair in pairs if pair not in placed and may_follow(rows, placed, pair, kind)])


class Stuck(Checks):
    def test_the_example(self):
        self.refuses(NoOrder, {"stuck": STUCK}, least_order, Table(STUCK_ROWS))
        self.assertEqual(stuck(Table(STUCK_ROWS)), STUCK)

    def test_against_all_sets_of_pairs(self):
        """Point 8.5 and its facts."""
        stuck_tables = 0
        for rows in small_tables(40, 6) + [STUCK_ROWS, [[0, 4], [4, 10]], [[1, 3], [2, 0]]]:
            table, pairs = Table(rows), pairs_of(rows)
            for kind in KINDS:
                plain = stuck_sets(rows, kind)
                greatest = [pair for pair in pairs if any(pair in chosen for chosen in plain)]
                self.assertEqual(stuck(table, kind=kind), greatest)
                self.assertTrue(not plain or greatest in plain)
                self.assertIs(has_order(table, kind=kind), not plain)
                for many in range(len(pairs) + 1):
                    for chosen in itertools.combinations(pairs, many):
                        chosen = list(chosen)
                        self.assertIs(is_stuck(table, chosen, kind=kind), chosen in plain)
                        self.assertIs(is_stuck(table, chosen[::-1], kind=kind), chosen in plain)
                stuck_tables += bool(plain)
            self.assertEqual(stuck(table), stuck(table, kind="even"))
            self.assertIs(has_order(table), has_order(table, kind="even"))
        self.assertGreater(stuck_tables, 20)

    def test_values_that_are_not_stuck_sets(self):
        table = Table(STUCK_ROWS)
        self.assertIs(is_stuck(table, STUCK), True)
        self.assertIs(is_stuck(value=STUCK[::-1], kind="any", table=table), True)
        wrong = NOT_LISTS + [[], tuple(STUCK), set(STUCK), dict.fromkeys(STUCK), STUCK + [(0, 0)], STUCK + [(0, 2)],
                             STUCK + [(3, 3)], STUCK + [None], [None] + STUCK, STUCK[:5], STUCK[1:], [STUCK],
                             [list(pair) for pair in STUCK], [(0, False)] + STUCK[1:], [(0, 0.0)] + STUCK[1:],
                             [(0, 0)] * 6, STUCK + STUCK, [(-1, 0)], [(GREAT, 0)], [(0, 0), []], [[[[[[[[]]]]]]]]]
        for value in wrong:
            for kind in KINDS:
                self.assertIs(is_stuck(table, value, kind=kind), False, repr(value))
            self.assertIs(is_stuck(table, value), False)
        for value in NOT_TWOS:
            for at in range(6):
                self.assertIs(is_stuck(table, STUCK[:at] + [value] + STUCK[at + 1:]), False)

    def test_the_value_stays(self):
        value = STUCK[::-1]
        is_stuck(Table(STUCK_ROWS), value)
        self.assertEqual(value, STUCK[::-1])

    def test_no_pairs(self):
        table = Table.filled(2, 3, None)
        for kind in KINDS:
            self.assertEqual((stuck(table, kind=kind), has_order(table, kind=kind)), ([], True))
            self.assertEqual(least_order(table, kind=kind), Order([]))
            self.assertIs(is_stuck(table, [], kind=kind), False)

    def test_the_kinds_differ(self):
        rows = [[0, 4], [4, 10]]
        self.assertEqual({kind: has_order(Table(rows), kind=kind) for kind in KINDS},
                         {kind: not stuck_sets(rows, kind) for kind in KINDS})
        self.assertIs(has_order(Table(rows)), True)
        self.assertIs(has_order(Table(rows), kind="any"), False)

    def test_wrong_kinds(self):
        for kind in WRONG_KINDS:
            for table in (TABLE, Table(STUCK_ROWS)):
                for work in (stuck, has_order, least_order):
                    self.refuses(InvalidBound, {"name": "kind"}, work, table, kind=kind)
                for value in ([], None, STUCK, 5):
                    self.refuses(InvalidBound, {"name": "kind"}, is_stuck, table, value, kind=kind)

    def test_what_is_returned_or_carried_is_a_copy(self):
        table = Table(STUCK_ROWS)
        stuck(table).clear()
        self.assertEqual(stuck(table), STUCK)
        error = self.refuses(NoOrder, {"stuck": STUCK}, least_order, table)
        error.stuck.clear()
        self.refuses(NoOrder, {"stuck": STUCK}, least_order, table)


class Least(Checks):
    def test_against_all_orders(self):
        for rows in small_tables(50, 5) + [[[0, 4], [4, 10]], [[1, 2], [2, 1]]]:
            table = Table(rows)
            for kind in KINDS:
                plain = right_orders(rows, kind)
                if plain:
                    found = least_order(table, kind=kind)
                    self.assertIsInstance(found, Order)
                    self.assertEqual(found.pairs(), plain[0])
                    self.assertIs(is_right(table, found, kind=kind), True)
                else:
                    self.refuses(NoOrder, {"stuck": stuck(table, kind=kind)}, least_order, table, kind=kind)
            if right_orders(rows, "even"):
                self.assertEqual(least_order(table), least_order(table, kind="even"))

    def test_it_takes_the_least_pair_that_may_stand_next(self):
        for rows in small_tables(30, 9):
            table = Table(rows)
            for kind in KINDS:
                placed = []
                free = may_stand(table, placed, kind=kind)
                while free:
                    placed.append(free[0])
                    free = may_stand(table, placed, kind=kind)
                if has_order(table, kind=kind):
                    self.assertEqual(least_order(table, kind=kind).pairs(), placed)

    def test_8_stocks_and_8_wishes_end_soon(self):
        monge = Table([[-i * j * GREAT for j in range(8)] for i in range(8)])
        self.assertEqual(least_order(monge).pairs(), monge.pairs())
        corner = [(i, j) for i in range(8) for j in range(8)]
        self.assertEqual(least_order(Table.filled(8, 8, -GREAT), kind="any").pairs(), corner)
        steep = Table([[-(i + 1) * (j + 1) for j in range(8)] for i in range(8)])
        for kind in KINDS:
            order = least_order(steep, kind=kind)
            self.assertIs(is_right(steep, order, kind=kind), True)
        rows = some_rows(6, 8, 8, -4, 4, 0.1)
        for kind in KINDS:
            left = stuck(Table(rows), kind=kind)
            self.assertIs(is_stuck(Table(rows), left, kind=kind), True)
            self.refuses(NoOrder, {"stuck": left}, least_order, Table(rows), kind=kind)


class Facts(Checks):
    def test_a_pair_that_may_stand_next_may_still_do_so_later(self):
        for seed, rows in enumerate(small_tables(25, 6)):
            table, chance = Table(rows), random.Random(seed)
            for placed in some_placed(rows, seed, 4):
                for kind in KINDS:
                    for pair in may_stand(table, placed, kind=kind):
                        others = [other for other in pairs_of(rows) if other != pair and other not in placed]
                        more = chance.sample(others, chance.randint(0, len(others)))
                        self.assertIn(pair, may_stand(table, placed + more, kind=kind))

    def test_right_if_each_pair_may_stand_next_in_its_turn(self):
        for seed, rows in enumerate(small_tables(25, 6)):
            table, pairs, chance = Table(rows), pairs_of(rows), random.Random(seed)
            for _ in range(6):
                order = chance.sample(pairs, len(pairs))
                for kind in KINDS:
                    each = all(order[k] in may_stand(table, order[:k], kind=kind) for k in range(len(order)))
                    self.assertIs(is_right(table, Order(order), kind=kind), each)

    def test_any_pair_that_may_stand_next_can_be_taken(self):
        for seed, rows in enumerate(small_tables(30, 9)):
            table, chance = Table(rows), random.Random(seed)
            for kind in KINDS:
                placed, free = [], may_stand(table, [], kind=kind)
                while free:
                    placed.append(chance.choice(free))
                    free = may_stand(table, placed, kind=kind)
                left = [pair for pair in pairs_of(rows) if pair not in placed]
                self.assertEqual(left, stuck(table, kind=kind))
                if not left:
                    self.assertIs(is_right(table, Order(placed), kind=kind), True)


if __name__ == "__main__":
    unittest.main()
