"""Points 3.1 to 3.4 and 1.5, and 0.3 to 0.12 as far as they speak of amounts: pairorder/amounts.py."""

import operator
import unittest

from pairorder.amounts import Amounts
from pairorder.errors import InvalidAmounts, InvalidBound
from pairorder.kinds import KINDS, suits
from pairorder.orders import Order
from pairorder.tables import Table
from values import GREAT, NOT_INTEGERS, NOT_LISTS, Checks


def wrong(word, at):
    return {"word": word, "at": at}


class Creating(Checks):
    def test_every_size_from_1_to_8(self):
        for many in range(1, 9):
            for wide in range(1, 9):
                stocks, wishes = list(range(many)), [10 * j for j in range(wide)]
                amounts = Amounts(stocks, wishes)
                self.assertEqual((amounts.stocks(), amounts.wishes()), (stocks, wishes))

    def test_zeros_and_great_numbers(self):
        amounts = Amounts([0, GREAT], [GREAT, 0, 1])
        self.assertEqual((amounts.stocks(), amounts.wishes(), amounts.over()), ([0, GREAT], [GREAT, 0, 1], -1))

    def test_what_is_not_a_list_of_1_to_8_entries(self):
        for value in NOT_LISTS + [[], [0] * 9, [None] * 9, [True] * 64]:
            self.refuses(InvalidAmounts, wrong("stocks", -1), Amounts, value, [1])
            self.refuses(InvalidAmounts, wrong("wishes", -1), Amounts, [1], value)

    def test_an_entry_that_is_not_an_integer_of_at_least_0(self):
        for entry in NOT_INTEGERS + [-1, -GREAT]:
            for at in range(3):
                numbers = [3, 0, 1]
                numbers[at] = entry
                self.refuses(InvalidAmounts, wrong("stocks", at), Amounts, numbers, [1])
                self.refuses(InvalidAmounts, wrong("wishes", at), Amounts, [1], numbers)
            self.refuses(InvalidAmounts, wrong("stocks", 7), Amounts, [0] * 7 + [entry], [1])
            self.refuses(InvalidAmounts, wrong("wishes", 7), Amounts, [1], [0] * 7 + [entry])

    def test_the_first_wrong_entry_counts(self):
        self.refuses(InvalidAmounts, wrong("stocks", 1), Amounts, [0, -1, True, None], [1])
        self.refuses(InvalidAmounts, wrong("wishes", 0), Amounts, [1], [None, -1])

    def test_the_stocks_are_checked_completely_before_the_wishes(self):
        self.refuses(InvalidAmounts, wrong("stocks", 2), Amounts, [1, 1, -1], None)
        self.refuses(InvalidAmounts, wrong("stocks", 1), Amounts, [1, "1"], [])
        self.refuses(InvalidAmounts, wrong("stocks", -1), Amounts, [], [True])
        self.refuses(InvalidAmounts, wrong("stocks", -1), Amounts, (1,), (1,))

    def test_by_names(self):
        amounts = Amounts(wishes=[1], stocks=[2, 3])
        self.assertEqual((amounts.stocks(), amounts.wishes()), ([2, 3], [1]))

    def test_later_changes_of_the_passed_lists_have_no_effect(self):
        stocks, wishes = [1, 2], [3]
        amounts = Amounts(stocks, wishes)
        stocks[0] = 9
        stocks.append(4)
        wishes.clear()
        self.assertEqual((amounts.stocks(), amounts.wishes(), amounts.over()), ([1, 2], [3], 0))
        both = [5]
        amounts = Amounts(both, both)
        both[0] = 6
        self.assertEqual((amounts.stocks(), amounts.wishes()), ([5], [5]))

    def test_returned_lists_are_new_ones(self):
        amounts = Amounts([1, 2], [3])
        amounts.stocks().append(5)
        amounts.wishes()[0] = 7
        self.assertEqual((amounts.stocks(), amounts.wishes(), amounts.over()), ([1, 2], [3], 0))
        self.assertIsNot(amounts.stocks(), amounts.stocks())
        self.assertIsNot(amounts.wishes(), amounts.wishes())

    def test_passed_lists_stay_as_they_are(self):
        stocks, wishes = [1, 2], [3, True]
        self.refuses(InvalidAmounts, wrong("wishes", 1), Amounts, stocks, wishes)
        self.assertEqual(repr((stocks, wishes)), "([1, 2], [3, True])")


class Zeros(Checks):
    def test_every_size(self):
        for many in range(1, 9):
            for wide in range(1, 9):
                amounts = Amounts.zeros(many, wide)
                self.assertIsInstance(amounts, Amounts)
                self.assertEqual((amounts.stocks(), amounts.wishes()), ([0] * many, [0] * wide))

    def test_wrong_counts(self):
        for count in NOT_INTEGERS + [0, -1, 9, 64, GREAT, -GREAT]:
            self.refuses(InvalidBound, {"name": "stock_count"}, Amounts.zeros, count, 1)
            self.refuses(InvalidBound, {"name": "wish_count"}, Amounts.zeros, 1, count)
            self.refuses(InvalidBound, {"name": "stock_count"}, Amounts.zeros, count, 0)
            self.refuses(InvalidBound, {"name": "stock_count"}, Amounts.zeros, 0, count)

    def test_by_names(self):
        self.assertEqual(Amounts.zeros(wish_count=1, stock_count=2), Amounts([0, 0], [0]))


class Comparing(Checks):
    def test_equal_amounts(self):
        self.assertIs(Amounts([1, 2], [3]) == Amounts([1, 2], [3]), True)
        self.assertIs(Amounts([1, 2], [3]) != Amounts([1, 2], [3]), False)

    def test_amounts_that_are_not_equal(self):
        for other in (Amounts([1, 2], [4]), Amounts([2, 1], [3]), Amounts([1], [3]), Amounts([1, 2], [3, 0]),
                      Amounts([3], [1, 2]), Amounts([1, 2, 0], [3])):
            self.assertIs(Amounts([1, 2], [3]) == other, False)
            self.assertIs(Amounts([1, 2], [3]) != other, True)

    def test_amounts_have_no_sequence(self):
        for work in (operator.lt, operator.le, operator.gt, operator.ge):
            with self.assertRaises(TypeError):
                work(Amounts([1], [1]), Amounts([2], [2]))

    def test_iterating_raises_a_type_error(self):
        for work in (iter, list, sorted, lambda held: [*held], lambda held: 1 in held):
            with self.assertRaises(TypeError):
                work(Amounts([1], [1]))

    def test_fits_size(self):
        for many, wide in [(1, 1), (2, 3), (3, 2), (3, 3), (8, 8), (8, 7)]:
            amounts = Amounts.zeros(many, wide)
            for stocks in range(1, 9):
                for wishes in range(1, 9):
                    self.assertIs(amounts.fits_size(Table.filled(stocks, wishes, None)), (stocks, wishes) == (many, wide))
        self.assertIs(Amounts([1], [1, 1]).fits_size(table=Table([[4, 5]])), True)


class Sums(Checks):
    def test_sum(self):
        total = Amounts([1, GREAT], [0, 3, 4]) + Amounts([10, GREAT], [5, 0, 1])
        self.assertEqual((total.stocks(), total.wishes()), ([11, 2 * GREAT], [5, 3, 5]))

    def test_the_summands_stay(self):
        one, other = Amounts([1], [2]), Amounts([3], [4])
        kept = one
        one += other
        self.assertEqual((one, kept, other), (Amounts([4], [6]), Amounts([1], [2]), Amounts([3], [4])))

    def test_what_is_not_amounts_of_the_size(self):
        amounts = Amounts([1, 2], [3, 4, 5])
        others = NOT_INTEGERS + NOT_LISTS + [5, Table.filled(2, 3, 1), Order([]), Amounts([1, 2], [3, 4]), Amounts,
                                             Amounts([1], [3, 4, 5]), Amounts([1, 2, 3], [4, 5]), ([1, 2], [3, 4, 5])]
        for other in others:
            self.refuses(InvalidAmounts, wrong("size", -1), operator.add, amounts, other)
        self.assertEqual(amounts, Amounts([1, 2], [3, 4, 5]))

    def test_multiples(self):
        for k in (0, 1, 2, 9, GREAT):
            expected = Amounts([k, 2 * k], [0, 3 * k, 4 * k])
            self.assertEqual(k * Amounts([1, 2], [0, 3, 4]), expected)
            self.assertEqual(Amounts([1, 2], [0, 3, 4]) * k, expected)

    def test_a_multiple_is_a_new_object(self):
        amounts = Amounts([1], [2])
        self.assertIsNot(1 * amounts, amounts)
        self.assertIsNot(amounts * 1, amounts)
        self.assertEqual(amounts * 5, Amounts([5], [10]))
        self.assertEqual(amounts, Amounts([1], [2]))

    def test_wrong_factors(self):
        for k in NOT_INTEGERS + [-1, -GREAT, "ab", [[1]], Table([[1]])]:
            self.refuses(InvalidBound, {"name": "times"}, operator.mul, Amounts([1], [2]), k)
        for k in NOT_INTEGERS + [-1, -GREAT, "ab", [[1]]]:
            self.refuses(InvalidBound, {"name": "times"}, operator.mul, k, Amounts([1], [2]))
        self.refuses(InvalidBound, {"name": "times"}, operator.mul, Amounts([1], [2]), Amounts([1], [2]))

    def test_the_example(self):
        twice = 2 * Amounts([5, 2], [3, 3])
        self.assertEqual([twice.stocks(), twice.wishes(), twice.over()], [[10, 4], [6, 6], 2])


class Excess(Checks):
    def test_over(self):
        self.assertEqual(Amounts([5, 2], [3, 3]).over(), 1)
        self.assertEqual(Amounts([5, 2], [3, 3, 1]).over(), 0)
        self.assertEqual(Amounts([0], [3, 3, 1]).over(), -7)
        self.assertEqual(Amounts([GREAT] * 8, [0]).over(), 8 * GREAT)
        self.assertEqual(Amounts([0], [GREAT] * 8).over(), -8 * GREAT)
        self.assertEqual(Amounts.zeros(3, 4).over(), 0)

    def test_suits(self):
        below, zero, above = Amounts([GREAT], [GREAT, 1]), Amounts([2, 1], [3]), Amounts([GREAT, 1], [GREAT])
        expected = {"even": [False, True, False], "stock": [False, True, True], "wish": [True, True, False],
                    "any": [True, True, True]}
        for kind in KINDS:
            self.assertEqual([suits(amounts, kind=kind) for amounts in (below, zero, above)], expected[kind])
        self.assertEqual([suits(amounts) for amounts in (below, zero, above)], expected["even"])
        self.assertIs(suits(amounts=zero), True)

    def test_suits_refuses_what_is_not_a_kind(self):
        for kind in ("odd", None, True, 0, "", ["even"], ("any",)):
            self.refuses(InvalidBound, {"name": "kind"}, suits, Amounts([1], [1]), kind=kind)


if __name__ == "__main__":
    unittest.main()
