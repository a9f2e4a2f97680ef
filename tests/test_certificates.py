"""Points 6.1 to 6.5 and 5.1, and 0.6 to 0.9 as far as they speak of certificates: pairorder/certificates.py."""

import itertools
import random
import unittest

from pairorder.amounts import Amounts
from pairorder.certificates import are_worths, cheapest, fits, is_shortage, least_cost, shortage
from pairorder.errors import InvalidAmounts, NoFit
from pairorder.orders import Order
from pairorder.serving import Server, Serving, serving_of
from pairorder.tables import Table
from plain import cost_of, full_servings, least_cost_of, small_tables, some_rows
from values import GREAT, NOT_INTEGERS, Checks

SIZE = {"word": "size", "at": -1}


def amounts_up_to(rows, most):
    """Every two lists of amounts up to `most`."""
    many = len(rows)
    for numbers in itertools.product(range(most + 1), repeat=many + len(rows[0])):
        yield list(numbers[:many]), list(numbers[many:])


def some_amounts(seed, rows, count=12, most=3):
    """Amounts by chance, the excess below, at and above 0."""
    chance = random.Random(seed)
    for _ in range(count):
        yield [chance.randint(0, most) for _ in rows], [chance.randint(0, most) for _ in rows[0]]


def all_lists(many):
    return [list(chosen) for size in range(many + 1) for chosen in itertools.combinations(range(many), size)]


def plain_shortages(rows, stocks, wishes):
    """Every shortage, as point 6.1 says."""
    found = []
    excess = sum(stocks) - sum(wishes)
    for lines in all_lists(len(stocks)):
        met = [j for j in range(len(wishes)) if any(rows[i][j] is not None for i in lines)]
        if excess <= 0 and sum(stocks[i] for i in lines) > sum(wishes[j] for j in met):
            found.append(("stock", lines))
    for lines in all_lists(len(wishes)):
        met = [i for i in range(len(stocks)) if any(rows[i][j] is not None for j in lines)]
        if excess >= 0 and sum(wishes[j] for j in lines) > sum(stocks[i] for i in met):
            found.append(("wish", lines))
    return found


def are_plain_worths(rows, stocks, wishes, served, u, v):
    """Point 6.3, word by word."""
    excess = sum(stocks) - sum(wishes)
    for (i, j), amount in served.items():
        if u[i] + v[j] > rows[i][j] or (amount > 0 and u[i] + v[j] != rows[i][j]):
            return False
    for i, there in enumerate(stocks):
        left = there - sum(amount for pair, amount in served.items() if pair[0] == i)
        if excess > 0 and (u[i] > 0 or (left > 0 and u[i] != 0)):
            return False
    for j, asked in enumerate(wishes):
        left = asked - sum(amount for pair, amount in served.items() if pair[1] == j)
        if excess < 0 and (v[j] > 0 or (left > 0 and v[j] != 0)):
            return False
    return True


def greatest_tables():
    """Tables of 8 stocks and 8 wishes with prices of 60 digits and of very different sizes."""
    chance = random.Random(21)
    yield [[chance.randint(-GREAT, GREAT) for _ in range(8)] for _ in range(8)]
    yield [[chance.choice([None, chance.randint(-GREAT, GREAT)]) for _ in range(8)] for _ in range(8)]
    yield [[2 ** (8 * i + j) for j in range(8)] for i in range(8)]
    yield [[2 ** chance.randint(0, 190) for _ in range(8)] for _ in range(8)]
    yield [[(i + 1) * (j + 1) for j in range(8)] for i in range(8)]
    yield [[GREAT * (-1) ** (i + j) for j in range(8)] for i in range(8)]
    yield [[None if abs(i - j) > 1 else i - j * GREAT for j in range(8)] for i in range(8)]


def greatest_amounts():
    chance = random.Random(22)
    yield [GREAT] * 8, [GREAT] * 8
    yield [chance.randint(0, GREAT) for _ in range(8)], [chance.randint(0, GREAT) for _ in range(8)]
    yield [2 ** chance.randint(0, 190) for _ in range(8)], [2 ** chance.randint(0, 190) for _ in range(8)]
    yield [3 ** (15 * i) for i in range(8)], [2 ** (20 * j) for j in range(8)]
    yield [GREAT, 0, 0, 0, 0, 0, 0, 0], [0, 0, 0, 0, 0, 0, 0, GREAT]
    yield [0] * 8, [GREAT] * 8
    stocks = [chance.randint(0, GREAT) for _ in range(8)]
    yield stocks, stocks[::-1]


class Fits(Checks):
    def check(self, rows, stocks, wishes):
        table, amounts = Table(rows), Amounts(stocks, wishes)
        expected = bool(full_servings(rows, stocks, wishes))
        self.assertIs(fits(table, amounts), expected, (rows, stocks, wishes))
        found = shortage(table, amounts)
        if expected:
            self.assertIsNone(found)
        else:
            self.assertIn(found, plain_shortages(rows, stocks, wishes), (rows, stocks, wishes))
            self.assertIs(found.__class__, tuple)
            self.assertIs(is_shortage(table, amounts, found), True)
        return expected

    def test_against_a_plain_search(self):
        answers = []
        for seed, rows in enumerate(small_tables(45)):
            for stocks, wishes in some_amounts(seed, rows):
                answers.append((self.check(rows, stocks, wishes), (sum(stocks) > sum(wishes)) - (sum(stocks) < sum(wishes))))
        # Both answers occur with an excess below, at and above 0.
        self.assertEqual(len(set(answers)), 6)

    def test_all_amounts_of_small_tables(self):
        for rows in ([[1, None], [2, 3]], [[None, 5], [None, 5]], [[None, None], [1, 1]], [[0, None], [None, 0]]):
            for stocks, wishes in amounts_up_to(rows, 2):
                self.check(rows, stocks, wishes)

    def test_all_cells_barred(self):
        table = Table.filled(2, 3, None)
        self.assertIs(fits(table, Amounts([0, 0], [0, 0, 0])), True)
        self.assertIs(fits(table, Amounts([5, 1], [0, 0, 0])), True)
        self.assertIs(fits(table, Amounts([0, 0], [0, 0, 2])), True)
        self.assertIs(fits(table, Amounts([1, 0], [0, 0, 2])), False)
        for stocks, wishes in ([0, 1], [0, 0, 2]), ([0, 3], [0, 2, 0]), ([0, 3], [0, 3, 0]):
            self.check([[None] * 3] * 2, stocks, wishes)

    def test_tables_of_one_line(self):
        self.check([[3, None, 1]], [4], [1, 0, 2])
        self.check([[3, None, 1]], [2], [1, 1, 2])
        self.check([[3, None, 1]], [3], [1, 1, 1])
        self.check([[3], [None], [1]], [1, 1, 2], [4])
        self.check([[3], [None], [1]], [1, 2, 2], [3])
        self.check([[None]], [1], [1])
        self.check([[None]], [1], [0])

    def test_without_bars_all_amounts_fit(self):
        for stocks, wishes in ([GREAT, 0], [1, 2, 3]), ([1, 1], [GREAT] * 3), ([3, 3], [1, 2, 3]):
            self.assertIs(fits(Table.filled(2, 3, GREAT), Amounts(stocks, wishes)), True)
            self.assertIsNone(shortage(Table.filled(2, 3, -GREAT), Amounts(stocks, wishes)))

    def test_the_prices_do_not_matter(self):
        for seed in range(10):
            rows = some_rows(seed, 3, 3, barred=0.5)
            bars = [[None if price is None else 0 for price in row] for row in rows]
            for stocks, wishes in some_amounts(seed, rows):
                amounts = Amounts(stocks, wishes)
                self.assertEqual(fits(Table(rows), amounts), fits(Table(bars), amounts))

    def test_amounts_of_another_size(self):
        table = Table([[1, 2, 3], [4, None, 6]])
        for amounts in (Amounts([1, 1, 1], [1, 1]), Amounts([1, 1], [1, 1]), Amounts([1], [1, 1, 1]),
                        Amounts([1, 1, 1], [1, 1, 1])):
            for work in (fits, shortage, cheapest, least_cost):
                self.refuses(InvalidAmounts, SIZE, work, table, amounts)
            for value in (None, ("stock", [0]), ("wish", []), 5):
                self.refuses(InvalidAmounts, SIZE, is_shortage, table, amounts, value)

    def test_a_shortage_is_a_new_list_each_time(self):
        table, amounts = Table([[None, 1], [1, 1]]), Amounts([3, 0], [2, 1])
        self.assertIsNot(shortage(table, amounts)[1], shortage(table, amounts)[1])
        shortage(table, amounts)[1].append(5)
        shortage(table, amounts)[1].clear()
        self.check([[None, 1], [1, 1]], [3, 0], [2, 1])

    def test_by_names(self):
        table, amounts = Table([[1]]), Amounts([1], [1])
        self.assertIs(fits(amounts=amounts, table=table), True)
        self.assertIsNone(shortage(amounts=amounts, table=table))
        self.assertIs(is_shortage(value=None, amounts=amounts, table=table), False)
        self.assertEqual(least_cost(amounts=amounts, table=table), 1)
        serving, worths = cheapest(amounts=amounts, table=table)
        self.assertIs(are_worths(value=worths, serving=serving, amounts=amounts, table=table), True)


class Shortages(Checks):
    def test_the_example(self):
        self.assertIs(is_shortage(Table([[3, None], [1, 5]]), Amounts([2, 2], [1, 3]), ("stock", [0])), True)

    def test_every_list_of_lines(self):
        for seed, rows in enumerate(small_tables(45)):
            for stocks, wishes in some_amounts(seed, rows, 8):
                table, amounts = Table(rows), Amounts(stocks, wishes)
                plain = plain_shortages(rows, stocks, wishes)
                for word, many in (("stock", len(stocks)), ("wish", len(wishes))):
                    for lines in all_lists(many):
                        self.assertIs(is_shortage(table, amounts, (word, lines)), (word, lines) in plain)
                # Fact 6.2.
                self.assertEqual(bool(plain), not full_servings(rows, stocks, wishes))

    def test_the_word_for_the_excess(self):
        table = Table([[None, 1], [1, 1]])
        # Stock 0 has a pair with wish 1 only, and wish 0 with stock 1 only.
        self.assertIs(is_shortage(table, Amounts([3, 0], [2, 1]), ("stock", [0])), True)
        self.assertIs(is_shortage(table, Amounts([3, 0], [2, 1]), ("wish", [0])), True)
        self.assertIs(is_shortage(table, Amounts([3, 0], [3, 1]), ("stock", [0])), True)
        self.assertIs(is_shortage(table, Amounts([3, 0], [3, 1]), ("wish", [0])), False)
        self.assertIs(is_shortage(table, Amounts([4, 0], [2, 1]), ("stock", [0])), False)
        self.assertIs(is_shortage(table, Amounts([4, 0], [2, 1]), ("wish", [0])), True)

    def test_equal_totals_are_no_shortage(self):
        table = Table([[None, 1], [1, 1]])
        self.assertIs(is_shortage(table, Amounts([3, 1], [1, 3]), ("stock", [0])), False)
        self.assertIs(is_shortage(table, Amounts([4, 0], [1, 3]), ("stock", [0])), True)
        self.assertIs(is_shortage(table, Amounts([3, 1], [1, 3]), ("wish", [0])), False)
        self.assertIs(is_shortage(table, Amounts([4, 0], [1, 3]), ("wish", [0])), True)

    def test_values_of_another_form(self):
        table, amounts = Table.filled(3, 3, None), Amounts([1, 1, 1], [1, 1, 1])
        for lines in ([0], [0, 1], [0, 1, 2], [2]):
            self.assertIs(is_shortage(table, amounts, ("stock", lines)), True)
            self.assertIs(is_shortage(table, amounts, ("wish", lines)), True)
        wrong = [None, True, 0, "", "stock", "wish", [], (), {}, set(), ("stock",), ("stock", [0], [0]), ["stock", [0]],
                 ("stocks", [0]), ("Stock", [0]), ("", [0]), (None, [0]), (True, [0]), (0, [0]), (b"stock", [0]),
                 (["stock"], [0]), ([0], "stock"), ({"stock": 0}, [0]), ("even", [0]), ("any", [0]), ("stock", None),
                 ("stock", 0), ("stock", "0"), ("stock", (0,)), ("stock", {0}), ("stock", {0: 0}), ("stock", []),
                 ("stock", [1, 0]), ("stock", [0, 0]), ("stock", [0, 1, 1]), ("stock", [3]), ("stock", [0, 3]),
                 ("stock", [-1]), ("stock", [-1, 0]), ("stock", [0, 1, 2, 3]), ("stock", [[0]]), ("stock", [GREAT]),
                 ("stock", [-GREAT]), ("wish", []), ("wish", [2, 1]), ("wish", [3]), ("wish", [-1]), ("wish", (0,)),
                 ("wish", [1, 1]), ("stock", range(2)), ("wish", [[[[[[0]]]]]])]
        for value in wrong:
            self.assertIs(is_shortage(table, amounts, value), False, repr(value))
        for entry in NOT_INTEGERS:
            for at in range(2):
                lines = [0, 1]
                lines[at] = entry
                self.assertIs(is_shortage(table, amounts, ("stock", lines)), False)
                self.assertIs(is_shortage(table, amounts, ("wish", lines)), False)

    def test_the_line_numbers_of_the_right_side(self):
        table, amounts = Table.filled(1, 3, None), Amounts([2], [0, 0, 2])
        self.assertIs(is_shortage(table, amounts, ("wish", [2])), True)
        self.assertIs(is_shortage(table, amounts, ("stock", [0])), True)
        self.assertIs(is_shortage(table, amounts, ("stock", [2])), False)
        self.assertIs(is_shortage(table.turned(), Amounts([0, 0, 2], [2]), ("wish", [2])), False)
        self.assertIs(is_shortage(table.turned(), Amounts([0, 0, 2], [2]), ("stock", [2])), True)

    def test_the_value_stays(self):
        value = ("stock", [1, 0])
        is_shortage(Table([[1], [1]]), Amounts([1, 1], [2]), value)
        self.assertEqual(value, ("stock", [1, 0]))


class Cheapest(Checks):
    def check(self, rows, stocks, wishes):
        table, amounts = Table(rows), Amounts(stocks, wishes)
        plain = least_cost_of(rows, stocks, wishes)
        if plain is None:
            for work in (cheapest, least_cost):
                error = self.refuses(NoFit, None, work, table, amounts)
                self.assertIn(error.shortage, plain_shortages(rows, stocks, wishes))
            return
        found = cheapest(table, amounts)
        self.assertIs(found.__class__, tuple)
        serving, worths = found
        self.assertIsInstance(serving, Serving)
        self.assertEqual(serving.amounts(), amounts)
        self.assertIs(serving.is_full(), True)
        self.assertEqual((serving.cost(), least_cost(table, amounts)), (plain, plain), (rows, stocks, wishes))
        served = {pair: serving[pair] for pair in table.pairs()}
        self.assertEqual([part.__class__ for part in (worths, *worths)], [tuple, list, list])
        self.assertEqual([len(part) for part in worths], [len(stocks), len(wishes)])
        self.assertTrue(are_plain_worths(rows, stocks, wishes, served, *worths), (rows, stocks, wishes))
        self.assertIs(are_worths(table, amounts, serving, worths), True)
        # Fact 6.4: the worths suit exactly the cheapest of all full servings.
        for other in full_servings(rows, stocks, wishes):
            self.assertIs(are_worths(table, amounts, serving_of(table, amounts, other), worths),
                          cost_of(rows, other) == plain)

    def test_against_a_plain_search(self):
        for seed, rows in enumerate(small_tables(60)):
            for stocks, wishes in some_amounts(seed + 100, rows, 8):
                self.check(rows, stocks, wishes)

    def test_all_amounts_of_small_tables(self):
        for rows in ([[4, 1], [2, 3]], [[-4, None], [2, -3]], [[0, -7], [None, 5]], [[-1, -1], [-1, -2]]):
            for stocks, wishes in amounts_up_to(rows, 2):
                self.check(rows, stocks, wishes)

    def test_3_stocks_and_3_wishes(self):
        for seed in range(25):
            rows = some_rows(seed, 3, 3, -9, 9, 0.1)
            for stocks, wishes in some_amounts(seed, rows, 3, 2):
                self.check(rows, stocks, wishes)

    def test_the_example(self):
        self.assertEqual(least_cost(Table([[1, 4], [2, 3]]), Amounts([2, 1], [1, 2])), 8)

    def test_amounts_of_0(self):
        for rows in ([[5, None], [-3, 0]], [[None, None]], [[-7]]):
            table = Table(rows)
            amounts = Amounts.zeros(table.stocks(), table.wishes())
            serving, worths = cheapest(table, amounts)
            self.assertEqual((serving.moved(), least_cost(table, amounts)), ([], 0))
            self.assertIs(are_worths(table, amounts, serving, worths), True)

    def test_all_cells_barred(self):
        table = Table.filled(2, 2, None)
        for amounts in (Amounts([0, 0], [0, 0]), Amounts([1, 2], [0, 0]), Amounts([0, 0], [0, 3])):
            serving, worths = cheapest(table, amounts)
            self.assertEqual((serving.moved(), serving.cost()), ([], 0))
            self.assertIs(are_worths(table, amounts, serving, worths), True)
        for stocks, wishes in ([0, 1], [1, 1]), ([1, 1], [1, 0]), ([1, 1], [1, 1]):
            self.check([[None] * 2] * 2, stocks, wishes)

    def test_a_full_serving_is_wanted_even_if_less_costs_less(self):
        self.assertEqual(least_cost(Table([[GREAT, 5]]), Amounts([3], [1, 1])), GREAT + 5)
        self.assertEqual(least_cost(Table([[-5], [-7]]), Amounts([3, 3], [4])), -26)

    def test_great_numbers_end_soon(self):
        for rows in greatest_tables():
            for stocks, wishes in greatest_amounts():
                table, amounts = Table(rows), Amounts(stocks, wishes)
                if fits(table, amounts):
                    serving, worths = cheapest(table, amounts)
                    self.assertIs(serving.is_full(), True)
                    self.assertIs(are_worths(table, amounts, serving, worths), True)
                    self.assertEqual(least_cost(table, amounts), serving.cost())
                else:
                    error = self.refuses(NoFit, None, cheapest, table, amounts)
                    self.assertIs(is_shortage(table, amounts, error.shortage), True)

    def test_steps_do_not_grow_with_the_numbers(self):
        # Two pairs in turn would move 1 each, if the way with the fewest pairs were not taken.
        rows = [[0, 0], [0, None]]
        self.assertEqual(cheapest(Table(rows), Amounts([GREAT, GREAT], [GREAT, GREAT]))[0].moved(),
                         [((0, 1), GREAT), ((1, 0), GREAT)])

    def test_what_is_returned_or_carried_is_a_copy(self):
        table, amounts = Table([[4, 1], [2, 3]]), Amounts([3, 1], [2, 1])
        first, again = cheapest(table, amounts), cheapest(table, amounts)
        self.assertEqual(first[1], again[1])
        first[1][0].clear()
        first[1][1].append(7)
        self.assertIs(are_worths(table, amounts, again[0], again[1]), True)
        self.assertEqual(cheapest(table, amounts)[1], again[1])
        short = Amounts([1, 1], [1, 1])
        error = self.refuses(NoFit, None, cheapest, Table.filled(2, 2, None), short)
        error.shortage[1].append(9)
        again = self.refuses(NoFit, None, cheapest, Table.filled(2, 2, None), short)
        self.assertIs(is_shortage(Table.filled(2, 2, None), short, again.shortage), True)


class Worths(Checks):
    table = Table([[4, 1], [2, 3]])

    def test_against_a_plain_search(self):
        """All small worths of all full servings; a serving that is not cheapest has none."""
        around = list(itertools.product(range(-3, 4), repeat=2))
        for rows in ([[1, 0], [-1, 1]], [[0, None], [1, -1]], [[1, -1], [1, None]]):
            table = Table(rows)
            for stocks, wishes in ([1, 1], [1, 1]), ([2, 0], [1, 0]), ([1, 1], [0, 1]), ([1, 0], [1, 1]), ([0, 2], [2, 1]):
                amounts = Amounts(stocks, wishes)
                least = least_cost_of(rows, stocks, wishes)
                for served in full_servings(rows, stocks, wishes):
                    serving = serving_of(table, amounts, served)
                    found = []
                    for u, v in itertools.product(around, repeat=2):
                        value = (list(u), list(v))
                        plain = are_plain_worths(rows, stocks, wishes, served, u, v)
                        self.assertIs(are_worths(table, amounts, serving, value), plain, (rows, stocks, wishes, value))
                        found.append(plain)
                    self.assertEqual(any(found), cost_of(rows, served) == least)

    def test_a_serving_that_is_not_full_has_none(self):
        amounts = Amounts([1, 1], [1, 1])
        serving, worths = cheapest(self.table, amounts)
        self.assertIs(are_worths(self.table, amounts, serving, worths), True)
        for served in ({}, {(0, 1): 1}, {(1, 0): 1}):
            self.assertIs(are_worths(self.table, amounts, serving_of(self.table, amounts, served), worths), False)
        # With an excess, nothing but the total tells that this one is not full.
        amounts = Amounts([5, 0], [1, 0])
        self.assertIs(are_worths(self.table, amounts, serving_of(self.table, amounts, {}), ([0, 0], [1, 0])), False)

    def test_a_serving_of_another_table_or_of_other_amounts(self):
        amounts = Amounts([1, 1], [1, 1])
        serving, worths = cheapest(self.table, amounts)
        for table in (self.table.with_price((0, 0), 5), self.table.with_price((1, 1), None), Table.filled(2, 2, 0)):
            self.assertIs(are_worths(table, amounts, serving, worths), False)
        self.assertIs(are_worths(self.table, amounts, serving_of(Table([[4, 1], [2, 9]]), amounts, {(0, 1): 1, (1, 0): 1}),
                                 worths), False)
        for other in (Amounts([2, 1], [1, 1]), Amounts([1, 1], [1, 2]), Amounts([2, 2], [2, 2]), Amounts.zeros(2, 2)):
            self.assertIs(are_worths(self.table, other, serving, worths), False)
        wider = Table([[4, 1, 0], [2, 3, 0]])
        other = Server(wider, Order(wider.pairs()))(Amounts([1, 1], [1, 1, 0]))
        self.assertIs(are_worths(self.table, amounts, other, worths), False)
        self.assertIs(are_worths(self.table, amounts, cheapest(Table([[1]]), Amounts([1], [1]))[0], worths), False)

    def test_values_of_another_form(self):
        amounts = Amounts.zeros(2, 2)
        serving = cheapest(self.table, amounts)[0]
        self.assertIs(are_worths(self.table, amounts, serving, ([0, 0], [0, 0])), True)
        wrong = [None, True, 0, "", "uv", [], (), {}, set(), [[0, 0], [0, 0]], ([0, 0],), ([0, 0], [0, 0], [0, 0]),
                 ((0, 0), (0, 0)), ([0, 0], (0, 0)), ((0, 0), [0, 0]), ([0], [0, 0]), ([0, 0], [0]), ([], []),
                 ([0, 0, 0], [0, 0]), ([0, 0], [0, 0, 0]), ([0, 0, 0], [0]), (None, None), ([0, 0], None), (0, 0),
                 ({0: 0, 1: 0}, [0, 0]), ("00", [0, 0]), ([[0], [0]], [0, 0]), {0: [0, 0], 1: [0, 0]},
                 {(0, 0): 1, (0, 1): 2}, "ab", b"ab", range(2), ([0, 0], {0, 1})]
        for value in wrong:
            self.assertIs(are_worths(self.table, amounts, serving, value), False, repr(value))
        for entry in NOT_INTEGERS:
            for at in range(2):
                wrong = [0, 0]
                wrong[at] = entry
                self.assertIs(are_worths(self.table, amounts, serving, (wrong, [0, 0])), False)
                self.assertIs(are_worths(self.table, amounts, serving, ([0, 0], wrong)), False)

    def test_each_condition(self):
        table = Table([[4, 1], [2, 3]])
        even = Amounts([1, 1], [1, 1])
        serving = serving_of(table, even, {(0, 1): 1, (1, 0): 1})
        self.assertIs(are_worths(table, even, serving, ([0, 0], [2, 1])), True)
        self.assertIs(are_worths(table, even, serving, ([GREAT, GREAT], [2 - GREAT, 1 - GREAT])), True)
        self.assertIs(are_worths(table, even, serving, ([-2, -2], [4, 3])), True)
        self.assertIs(are_worths(table, even, serving, ([0, 0], [2, 0])), False)
        self.assertIs(are_worths(table, even, serving, ([0, 0], [1, 1])), False)
        self.assertIs(are_worths(table, even, serving, ([3, 0], [2, -2])), False)
        over = Amounts([2, 1], [1, 1])
        serving = serving_of(table, over, {(0, 1): 1, (1, 0): 1})
        self.assertIs(are_worths(table, over, serving, ([0, 0], [2, 1])), True)
        self.assertIs(are_worths(table, over, serving, ([0, -2], [4, 1])), True)
        self.assertIs(are_worths(table, over, serving, ([0, 1], [1, 1])), False)
        self.assertIs(are_worths(table, over, serving, ([-1, 0], [2, 2])), False)
        under = Amounts([1, 1], [2, 1])
        serving = serving_of(table, under, {(0, 1): 1, (1, 0): 1})
        self.assertIs(are_worths(table, under, serving, ([1, 2], [0, 0])), True)
        self.assertIs(are_worths(table, under, serving, ([4, 2], [0, -3])), True)
        self.assertIs(are_worths(table, under, serving, ([0, 2], [0, 1])), False)
        self.assertIs(are_worths(table, under, serving, ([1, 3], [-1, 0])), False)

    def test_the_size_comes_first(self):
        amounts = Amounts([1, 1], [1, 1])
        serving, worths = cheapest(self.table, amounts)
        for value in (worths, None, ([0], [0])):
            for other in (Amounts([1], [1]), Amounts([1, 1], [1, 1, 1]), Amounts([1, 1, 1], [1, 1])):
                self.refuses(InvalidAmounts, SIZE, are_worths, self.table, other, serving, value)

    def test_the_value_stays(self):
        amounts = Amounts([1, 1], [1, 1])
        serving, worths = cheapest(self.table, amounts)
        before = repr(worths)
        are_worths(self.table, amounts, serving, worths)
        self.assertEqual(repr(worths), before)


if __name__ == "__main__":
    unittest.main()
