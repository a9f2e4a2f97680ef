"""Points 5.1 to 5.6, and 0.6 to 0.12 as far as they speak of servings: pairorder/serving.py."""

import itertools
import operator
import random
import unittest

from pairorder.amounts import Amounts
from pairorder.errors import InvalidAmounts, InvalidOrder, InvalidPair
from pairorder.orders import Order
from pairorder.serving import Server, Serving, is_serving, serving_of
from pairorder.tables import Table
from plain import all_servings, cost_of, pairs_of, served_by, small_tables, some_rows
from values import GREAT, NOT_INTEGERS, NOT_TWOS, Checks

PAIRS = [(0, 1), (1, 0), (0, 0), (1, 1)]


def sample_server():
    return Server(Table([[4, 1], [2, 3]]), Order(PAIRS))


def sample():
    return sample_server()(Amounts([5, 2], [3, 4]))


def random_amounts(chance, rows, most=6):
    return [chance.randint(0, most) for _ in rows], [chance.randint(0, most) for _ in rows[0]]


class Serve(Checks):
    def test_the_example(self):
        serving = sample()
        self.assertEqual([serving.moved(), serving.cost(), serving.is_full()],
                         [[((0, 0), 1), ((0, 1), 4), ((1, 0), 2)], 12, True])

    def test_one_pass_in_the_sequence_of_the_order(self):
        chance = random.Random(5)
        for rows in small_tables(40):
            pairs = pairs_of(rows)
            chance.shuffle(pairs)
            server = Server(Table(rows), Order(pairs))
            for _ in range(5):
                stocks, wishes = random_amounts(chance, rows)
                served = served_by(pairs, stocks, wishes)
                amounts = Amounts(stocks, wishes)
                serving = server(amounts)
                self.assertIsInstance(serving, Serving)
                self.assertEqual({pair: serving[pair] for pair in pairs}, served)
                self.assertEqual(list(server.steps(amounts)), [(pair, served[pair]) for pair in pairs])
                self.assertIs(is_serving(Table(rows), amounts, served), True)

    def test_the_sequence_matters(self):
        table, amounts = Table([[1, 1], [1, 1]]), Amounts([2, 1], [1, 1])
        self.assertEqual(Server(table, Order([(0, 0), (0, 1), (1, 0), (1, 1)]))(amounts).moved(),
                         [((0, 0), 1), ((0, 1), 1)])
        self.assertEqual(Server(table, Order([(1, 1), (0, 1), (1, 0), (0, 0)]))(amounts).moved(),
                         [((0, 0), 1), ((1, 1), 1)])

    def test_amounts_that_do_not_fit(self):
        serving = Server(Table([[1, None]]), Order([(0, 0)]))(Amounts([3], [1, 2]))
        self.assertEqual((serving.moved(), serving.total(), serving.is_full()), ([((0, 0), 1)], 1, False))
        self.assertEqual((serving.left_stocks(), serving.left_wishes()), ([2], [0, 2]))

    def test_all_cells_barred(self):
        for amounts in (Amounts([0, 0], [0, 0]), Amounts([1, 2], [3, 4]), Amounts([0, 0], [1, 0])):
            server = Server(Table.filled(2, 2, None), Order([]))
            serving = server(amounts)
            self.assertEqual((serving.moved(), serving.cost(), serving.total()), ([], 0, 0))
            self.assertEqual((serving.left_stocks(), serving.left_wishes()), (amounts.stocks(), amounts.wishes()))
            self.assertIs(serving.is_full(), amounts.stocks() == [0, 0])
            self.assertEqual(list(server.steps(amounts)), [])

    def test_amounts_of_0(self):
        serving = sample_server()(Amounts.zeros(2, 2))
        self.assertEqual((serving.moved(), serving.cost(), serving.total(), serving.is_full()), ([], 0, 0, True))
        self.assertEqual(list(sample_server().steps(Amounts.zeros(2, 2))), [(pair, 0) for pair in PAIRS])

    def test_great_numbers_and_negative_prices(self):
        serving = Server(Table([[-GREAT, GREAT]]), Order([(0, 1), (0, 0)]))(Amounts([GREAT], [GREAT, GREAT - 1]))
        self.assertEqual(serving.moved(), [((0, 0), 1), ((0, 1), GREAT - 1)])
        self.assertEqual((serving.cost(), serving.total()), (GREAT * (GREAT - 1) - GREAT, GREAT))

    def test_8_stocks_and_8_wishes(self):
        pairs = [(i, j) for i in range(8) for j in range(8)]
        serving = Server(Table.filled(8, 8, 1), Order(pairs))(Amounts(list(range(8)), [4] * 8))
        self.assertEqual({pair: serving[pair] for pair in pairs}, served_by(pairs, list(range(8)), [4] * 8))
        self.assertEqual((serving.total(), serving.is_full(), serving.left_wishes()[-1]), (28, True, 4))

    def test_an_order_of_other_pairs(self):
        table = Table([[1, None], [2, 3]])
        for pairs in ([], [(0, 0)], [(0, 0), (1, 0)], [(0, 0), (1, 0), (1, 1), (0, 1)], [(0, 0), (0, 1), (1, 0)],
                      [(0, 0), (1, 0), (1, 2)], [(0, 0), (1, 0), (7, 7)], [(0, 0), (1, 0), (1, 1), (2, 0)]):
            self.refuses(InvalidOrder, {"at": -1}, Server, table, Order(pairs))
        self.refuses(InvalidOrder, {"at": -1}, Server, Table.filled(1, 1, None), Order([(0, 0)]))
        self.assertIsInstance(Server(order=Order([(1, 1), (0, 0), (1, 0)]), table=table), Server)

    def test_amounts_of_another_size(self):
        server = Server(Table([[1, 2, 3], [4, 5, 6]]), Order([(i, j) for j in range(3) for i in range(2)]))
        for many, wide in [(3, 2), (2, 2), (2, 4), (1, 3), (3, 3), (1, 1), (6, 1)]:
            amounts = Amounts.zeros(many, wide)
            self.refuses(InvalidAmounts, {"word": "size", "at": -1}, server, amounts)
            self.refuses(InvalidAmounts, {"word": "size", "at": -1}, lambda: next(server.steps(amounts)))
            self.refuses(InvalidAmounts, {"word": "size", "at": -1}, lambda: list(server.steps(amounts)))
        self.assertEqual(server(amounts=Amounts.zeros(2, 3)).total(), 0)

    def test_a_refused_pass_leaves_the_server(self):
        server = sample_server()
        for _ in range(2):
            with self.assertRaises(InvalidAmounts):
                server(Amounts([1], [1]))
            with self.assertRaises(InvalidAmounts):
                list(server.steps(Amounts([1], [1])))
            self.assertEqual(server(Amounts([5, 2], [3, 4])), sample())


class Steps(Checks):
    def test_step_by_step(self):
        steps = sample_server().steps(amounts=Amounts([5, 2], [3, 4]))
        self.assertEqual(iter(steps), steps)
        self.assertEqual([next(steps) for _ in range(4)], [((0, 1), 4), ((1, 0), 2), ((0, 0), 1), ((1, 1), 0)])
        self.assertEqual(next(steps, "end"), "end")

    def test_a_server_may_be_called_any_number_of_times(self):
        server = sample_server()
        first = server(Amounts([5, 2], [3, 4]))
        for _ in range(3):
            server(Amounts([1, 9], [9, 1]))
            self.assertEqual(server(Amounts([5, 2], [3, 4])), first)
            self.assertEqual(len(list(server.steps(Amounts([1, 1], [1, 1])))), 4)

    def test_passes_side_by_side(self):
        chance = random.Random(8)
        rows = some_rows(3, 3, 3, barred=0.2)
        pairs = pairs_of(rows)
        chance.shuffle(pairs)
        server = Server(Table(rows), Order(pairs))
        amounts = [Amounts(*random_amounts(chance, rows)) for _ in range(6)]
        expected = [list(served_by(pairs, each.stocks(), each.wishes()).items()) for each in amounts]
        for _ in range(20):
            passes = [server.steps(each) for each in amounts] + [server.steps(amounts[0])]
            found = [[] for _ in passes]
            turns = [k for k in range(len(passes)) for _ in pairs]
            chance.shuffle(turns)
            for k in turns:
                found[k].append(next(passes[k]))
                other = chance.randrange(6)
                self.assertEqual(list(server(amounts[other]).moved()),
                                 sorted(step for step in expected[other] if step[1] > 0))
            self.assertEqual(found, expected + expected[:1])
            self.assertEqual([next(each, None) for each in passes], [None] * 7)

    def test_a_pass_that_is_left_early_has_no_effect(self):
        server = sample_server()
        steps = server.steps(Amounts([5, 2], [3, 4]))
        next(steps)
        steps.close()
        self.assertEqual(server(Amounts([5, 2], [3, 4])), sample())

    def test_the_lists_of_the_amounts_and_of_the_order_do_not_reach_it(self):
        pairs, stocks, wishes = list(PAIRS), [5, 2], [3, 4]
        order, amounts = Order(pairs), Amounts(stocks, wishes)
        server = Server(Table([[4, 1], [2, 3]]), order)
        steps = server.steps(amounts)
        first = next(steps)
        pairs.clear()
        order.pairs().reverse()
        stocks[0] = wishes[0] = 0
        amounts.stocks().clear()
        self.assertEqual([first] + list(steps), [((0, 1), 4), ((1, 0), 2), ((0, 0), 1), ((1, 1), 0)])
        self.assertEqual(server(amounts), sample())
        self.assertEqual((order.pairs(), amounts.stocks()), (PAIRS, [5, 2]))


class Asking(Checks):
    def test_everything_against_a_plain_sum(self):
        for rows in small_tables(20):
            table = Table(rows)
            chance = random.Random(len(rows))
            for _ in range(3):
                stocks, wishes = random_amounts(chance, rows, 2)
                for served in all_servings(rows, stocks, wishes)[::7]:
                    serving = serving_of(table, Amounts(stocks, wishes), served)
                    self.assertEqual({pair: serving[pair] for pair in table.pairs()}, served)
                    self.assertEqual(serving.moved(), sorted(item for item in served.items() if item[1] > 0))
                    self.assertEqual(serving.cost(), cost_of(rows, served))
                    self.assertEqual(serving.total(), sum(served.values()))
                    self.assertEqual(serving.left_stocks(), [there - sum(served.get((i, j), 0) for j in range(8))
                                                             for i, there in enumerate(stocks)])
                    self.assertEqual(serving.left_wishes(), [asked - sum(served.get((i, j), 0) for i in range(8))
                                                             for j, asked in enumerate(wishes)])
                    self.assertIs(serving.is_full(), sum(served.values()) == min(sum(stocks), sum(wishes)))
                    self.assertEqual(serving.amounts(), Amounts(stocks, wishes))

    def test_values_that_are_not_pairs(self):
        serving = Server(Table([[4, None], [2, 3]]), Order([(1, 1), (1, 0), (0, 0)]))(Amounts([1, 1], [1, 1]))
        for value in NOT_TWOS + [(0, 1), (-1, 0), (0, -1), (2, 0), (0, 2), (GREAT, 0), (0, -GREAT)]:
            self.refuses(InvalidPair, {"pair": value}, operator.getitem, serving, value)

    def test_returned_lists_are_new_ones(self):
        serving = sample()
        for ask in (serving.moved, serving.left_stocks, serving.left_wishes):
            kept = list(ask())
            self.assertIsNot(ask(), ask())
            ask().clear()
            ask().append(7)
            self.assertEqual(ask(), kept)
        self.assertEqual(serving, sample())

    def test_the_amounts_that_it_returns(self):
        serving = sample()
        serving.amounts().stocks().clear()
        self.assertEqual(serving.amounts(), Amounts([5, 2], [3, 4]))
        self.assertEqual((serving.left_stocks(), serving.left_wishes()), ([0, 0], [0, 0]))

    def test_equal_servings(self):
        self.assertIs(sample() == sample(), True)
        self.assertIs(sample() != sample(), False)
        table, amounts = Table([[4, 1], [2, 3]]), Amounts([5, 2], [3, 4])
        self.assertEqual(serving_of(table, amounts, {(1, 0): 2, (0, 1): 4, (0, 0): 1}), sample())

    def test_servings_that_are_not_equal(self):
        table, amounts, served = Table([[4, 1], [2, 3]]), Amounts([5, 2], [3, 4]), {(1, 0): 2, (0, 1): 4, (0, 0): 1}
        others = [serving_of(table.with_price((1, 1), 4), amounts, served), serving_of(table, amounts, {}),
                  serving_of(table.with_price((1, 1), None), amounts, served),
                  serving_of(table, Amounts([6, 2], [3, 4]), served), serving_of(table, Amounts([5, 2], [3, 5]), served),
                  serving_of(table, amounts, {(1, 1): 2, (0, 0): 3, (0, 1): 2})]
        for other in others:
            self.assertIs(sample() == other, False)
            self.assertIs(sample() != other, True)

    def test_iterating_raises_a_type_error(self):
        for work in (iter, list, sorted, dict, lambda held: [*held], lambda held: (0, 0) in held):
            with self.assertRaises(TypeError):
                work(sample())

    def test_servings_have_no_sequence_and_no_items_to_assign(self):
        serving = sample()
        for work in (operator.lt, operator.le, operator.gt, operator.ge):
            with self.assertRaises(TypeError):
                work(serving, sample())
        with self.assertRaises(TypeError):
            serving[0, 0] = 1
        self.assertEqual(serving, sample())


class ServingOf(Checks):
    table = Table([[4, None, 1], [2, 3, 5]])
    amounts = Amounts([5, 2], [3, 4, 1])

    def wrong(self, error_class, told, served):
        before = repr(served)
        self.refuses(error_class, told, serving_of, self.table, self.amounts, served)
        self.assertIs(is_serving(self.table, self.amounts, served), False)
        self.assertEqual(repr(served), before)

    def test_what_is_left_out_moves_0(self):
        serving = serving_of(self.table, self.amounts, {(1, 1): 2, (0, 2): 0})
        self.assertEqual([serving[pair] for pair in self.table.pairs()], [0, 0, 0, 2, 0])
        self.assertEqual(serving_of(self.table, self.amounts, {}).moved(), [])
        self.assertEqual(serving_of(served={}, amounts=self.amounts, table=self.table).total(), 0)

    def test_is_serving_says_true(self):
        for served in ({}, {(1, 1): 2}, {(0, 0): 3, (1, 1): 2, (0, 2): 1}, {(0, 0): 0}):
            self.assertIs(is_serving(self.table, self.amounts, served), True)
        self.assertIs(is_serving(value={}, amounts=self.amounts, table=self.table), True)

    def test_what_is_not_a_dict(self):
        for value in [None, True, 0, 1, "", "served", [], [((0, 0), 1)], (), ((0, 0), 1), set(), {(0, 0)}, 2.5, b"",
                      frozenset(), Ellipsis, [[[[[[[[]]]]]]]], dict]:
            self.wrong(InvalidPair, {"pair": None}, value)

    def test_keys_that_are_not_tuples_of_two_integers(self):
        keys = [key for key in NOT_TWOS if key.__hash__ is not None]
        for key in keys:
            try:
                served = {key: 1}
            except TypeError:
                continue
            self.wrong(InvalidPair, {"pair": None}, served)
            # As keys, (True, 0) and (1, 0) are the same; so the other keys are not equal to any of these.
            self.wrong(InvalidPair, {"pair": None}, {(0, 2): 1, key: 1})
            # Neither a strange pair nor a wrong amount comes first.
            self.wrong(InvalidPair, {"pair": None}, {(9, 9): 1, (0, 2): -1, key: 1})

    def test_the_least_key_that_is_not_a_pair(self):
        strange = [(-GREAT, 5), (-1, 0), (0, -1), (0, 1), (0, 3), (1, 3), (2, 0), (2, 1), (9, 9), (GREAT, -GREAT)]
        for key in strange:
            self.wrong(InvalidPair, {"pair": key}, {key: 1})
            self.wrong(InvalidPair, {"pair": key}, {(0, 0): 1, key: 0, (1, 1): 1})
        for one, other in itertools.permutations(strange, 2):
            self.wrong(InvalidPair, {"pair": min(one, other)}, {one: 1, (0, 0): 1, other: 1})
        for seed in range(20):
            keys = strange + [(0, 0), (1, 2)]
            random.Random(seed).shuffle(keys)
            self.wrong(InvalidPair, {"pair": (-GREAT, 5)}, {key: None for key in keys})

    def test_values_that_are_not_integers_of_at_least_0(self):
        for value in NOT_INTEGERS + [-1, -GREAT]:
            for pair in self.table.pairs():
                self.wrong(InvalidAmounts, {"word": "serving", "at": -1}, {pair: value})
                self.wrong(InvalidAmounts, {"word": "serving", "at": -1},
                           {**{other: 0 for other in self.table.pairs()}, pair: value})

    def test_more_than_the_amounts_have(self):
        for served in ({(0, 0): 4}, {(1, 1): 3}, {(0, 2): 2}, {(0, 0): 2, (1, 0): 2}, {(1, 0): 1, (1, 1): 2},
                       {(0, 2): 1, (1, 2): 1}, {(0, 0): GREAT}):
            self.wrong(InvalidAmounts, {"word": "serving", "at": -1}, served)
        # The total is not more than there is, but one line has too much.
        self.wrong(InvalidAmounts, {"word": "serving", "at": -1}, {(1, 0): 3})

    def test_all_of_a_line_is_not_too_much(self):
        serving = serving_of(self.table, self.amounts, {(0, 0): 3, (1, 1): 2, (0, 2): 1})
        self.assertEqual((serving.left_stocks(), serving.left_wishes()), ([1, 0], [0, 2, 0]))

    def test_a_strange_key_comes_before_a_wrong_value(self):
        self.wrong(InvalidPair, {"pair": (0, 1)}, {(0, 0): -1, (0, 1): 1, (1, 0): "2"})
        self.wrong(InvalidPair, {"pair": None}, {(0, 0): -1, (0, 1): 1, "x": 0})

    def test_the_size_comes_first(self):
        for served in (None, {}, {(9, 9): 1}, {"x": 1}, {(0, 0): -1}):
            for amounts in (Amounts([1, 1], [1, 1]), Amounts([1, 1, 1], [1, 1]), Amounts([1], [1, 1, 1])):
                told = {"word": "size", "at": -1}
                self.refuses(InvalidAmounts, told, serving_of, self.table, amounts, served)
                self.refuses(InvalidAmounts, told, is_serving, self.table, amounts, served)

    def test_later_changes_have_no_effect(self):
        served = {(0, 0): 2}
        serving = serving_of(self.table, self.amounts, served)
        served[0, 0] = 3
        served[1, 1] = 1
        self.assertEqual((serving.moved(), serving[0, 0], serving.total()), ([((0, 0), 2)], 2, 2))
        served.clear()
        self.assertEqual(serving.moved(), [((0, 0), 2)])

    def test_against_a_plain_search(self):
        for rows in small_tables(12, 4):
            pairs = pairs_of(rows)
            stocks, wishes = random_amounts(random.Random(len(pairs)), rows, 2)
            plain = all_servings(rows, stocks, wishes)
            for amounts in itertools.product(range(3), repeat=len(pairs)):
                served = dict(zip(pairs, amounts))
                self.assertIs(is_serving(Table(rows), Amounts(stocks, wishes), served), served in plain)


class Facts(Checks):
    def test_the_stock_or_the_wish_of_each_pair_is_used_up(self):
        chance = random.Random(11)
        for rows in small_tables(40):
            table, pairs = Table(rows), pairs_of(rows)
            chance.shuffle(pairs)
            serving = Server(table, Order(pairs))(Amounts(*random_amounts(chance, rows)))
            left = serving.left_stocks(), serving.left_wishes()
            self.assertTrue(all(left[0][i] == 0 or left[1][j] == 0 for i, j in pairs))

    def test_multiples(self):
        chance = random.Random(12)
        for rows in small_tables(30):
            table, pairs = Table(rows), pairs_of(rows)
            chance.shuffle(pairs)
            server, amounts = Server(table, Order(pairs)), Amounts(*random_amounts(chance, rows))
            for k in (0, 1, 3, GREAT):
                self.assertEqual([server(k * amounts)[pair] for pair in pairs],
                                 [k * server(amounts)[pair] for pair in pairs])

    def test_turned(self):
        chance = random.Random(13)
        for rows in small_tables(30):
            table, pairs = Table(rows), pairs_of(rows)
            chance.shuffle(pairs)
            order, amounts = Order(pairs), Amounts(*random_amounts(chance, rows))
            serving = Server(table, order)(amounts)
            turned = Server(table.turned(), order.turned())(Amounts(amounts.wishes(), amounts.stocks()))
            self.assertEqual([turned[j, i] for i, j in pairs], [serving[pair] for pair in pairs])
            self.assertEqual(turned.cost(), serving.cost())


if __name__ == "__main__":
    unittest.main()
