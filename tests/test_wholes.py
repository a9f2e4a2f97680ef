"""Points 1.3 and 0.3: pairorder/wholes.py."""

import unittest

from pairorder.wholes import is_between, is_integer

GREAT = 10 ** 60 - 1
NOT_INTEGERS = [
    True, False, None, 0.0, 1.0, -2.5, float("nan"), float("inf"), 1j, "", "1", "one", b"", b"1", bytearray(b"1"),
    [], [1], (), (1,), {}, {1: 1}, set(), {1}, frozenset([1]), range(3), int, len, NotImplemented, ...,
]


class IsInteger(unittest.TestCase):
    def test_integers(self):
        for value in [0, 1, -1, 7, -8, 255, 2 ** 63, -2 ** 64, GREAT, -GREAT, 10 ** 5000]:
            self.assertIs(is_integer(value), True)

    def test_bools_are_never_integers(self):
        self.assertIs(is_integer(True), False)
        self.assertIs(is_integer(False), False)

    def test_any_other_value_is_not_an_integer(self):
        for value in NOT_INTEGERS:
            self.assertIs(is_integer(value), False, repr(value))

    def test_by_name(self):
        self.assertIs(is_integer(value=3), True)

    def test_a_list_or_dict_stays_as_it_was(self):
        rows, prices = [[1], [2]], {(0, 1): [3]}
        is_integer(rows)
        is_integer(prices)
        self.assertEqual((rows, prices), ([[1], [2]], {(0, 1): [3]}))


class IsBetween(unittest.TestCase):
    def test_both_ends_are_included(self):
        self.assertEqual([is_between(value, 2, 5) for value in range(8)],
                         [False, False, True, True, True, True, False, False])

    def test_low_and_high_may_be_equal(self):
        self.assertEqual([is_between(value, 4, 4) for value in (3, 4, 5)], [False, True, False])

    def test_no_integer_is_between_if_low_is_greater(self):
        self.assertEqual([is_between(value, 5, 2) for value in range(8)], [False] * 8)
        self.assertIs(is_between(0, 1, 0), False)

    def test_negative_numbers(self):
        self.assertEqual([is_between(value, -3, -1) for value in range(-5, 2)],
                         [False, False, True, True, True, False, False])
        self.assertIs(is_between(0, -1, 1), True)

    def test_very_great_numbers(self):
        self.assertIs(is_between(GREAT, -GREAT, GREAT), True)
        self.assertIs(is_between(-GREAT, -GREAT, GREAT), True)
        self.assertIs(is_between(GREAT, -GREAT, GREAT - 1), False)
        self.assertIs(is_between(-GREAT, 1 - GREAT, GREAT), False)
        # Two numbers that differ by less than a float could tell.
        self.assertIs(is_between(2 ** 53 + 1, 0, 2 ** 53), False)

    def test_bools_are_never_between(self):
        for low, high in [(0, 1), (-5, 5), (0, 0), (1, 1)]:
            self.assertIs(is_between(True, low, high), False)
            self.assertIs(is_between(False, low, high), False)

    def test_any_other_value_is_not_between(self):
        for value in NOT_INTEGERS:
            self.assertIs(is_between(value, -GREAT, GREAT), False, repr(value))

    def test_by_names(self):
        self.assertIs(is_between(high=9, low=1, value=9), True)
        self.assertIs(is_between(high=9, low=1, value=0), False)


if __name__ == "__main__":
    unittest.main()
