"""Points 1.4, 1.5, 0.8, 0.10 and 0.12: pairorder/kinds.py."""

import unittest

from pairorder.errors import InvalidBound
from pairorder.kinds import KINDS, is_kind, suits

GREAT = 10 ** 60
NOT_KINDS = [
    "", " ", "Even", "EVEN", " even", "even ", "even\n", "evens", "eve", "odd", "stocks", "Stock", "wishes", "ANY",
    "all", "none", "even stock", "e", None, True, False, 0, 1, -1, 3, GREAT, 0.0, 1.5, float("nan"), 2j,
    b"even", b"", bytearray(b"any"), [], ["even"], ["even", "stock", "wish", "any"], [[]], {}, {"even": 1},
    {"kind": "even"}, (), ("even",), ("even", "stock", "wish", "any"), set(), {"even"}, frozenset(["any"]),
    range(2), str, len, ...,
]


class Amounts:
    """Stands for amounts: kinds ask them for nothing but their excess."""

    def __init__(self, excess):
        self.excess = excess

    def over(self):
        return self.excess


class Unasked:
    """Amounts that must not be asked, since the kind is checked first."""

    def over(self):
        raise AssertionError("the excess was asked for")


class Kinds(unittest.TestCase):
    def test_the_tuple(self):
        self.assertEqual(KINDS, ("even", "stock", "wish", "any"))
        self.assertIsInstance(KINDS, tuple)

    def test_each_kind(self):
        for value in ("even", "stock", "wish", "any"):
            self.assertIs(is_kind(value), True)

    def test_a_string_that_is_made_later_is_a_kind(self):
        self.assertIs(is_kind("".join(["st", "ock"])), True)

    def test_any_other_value_is_not_a_kind(self):
        for value in NOT_KINDS:
            self.assertIs(is_kind(value), False, repr(value))

    def test_by_name(self):
        self.assertIs(is_kind(value="wish"), True)

    def test_a_list_or_dict_stays_as_it_was(self):
        kinds, names = ["even", ["any"]], {"even": ["any"]}
        is_kind(kinds)
        is_kind(names)
        self.assertEqual((kinds, names), (["even", ["any"]], {"even": ["any"]}))


class Suits(unittest.TestCase):
    def check(self, kind, below, zero, above):
        for excess in (-GREAT, -7, -1):
            self.assertIs(suits(Amounts(excess), kind=kind), below)
        self.assertIs(suits(Amounts(0), kind=kind), zero)
        for excess in (1, 7, GREAT):
            self.assertIs(suits(Amounts(excess), kind=kind), above)

    def test_even(self):
        self.check("even", False, True, False)

    def test_stock(self):
        self.check("stock", False, True, True)

    def test_wish(self):
        self.check("wish", True, True, False)

    def test_any(self):
        self.check("any", True, True, True)

    def test_even_is_the_default(self):
        self.assertEqual([suits(Amounts(excess)) for excess in (-1, 0, 1)], [False, True, False])

    def test_amounts_may_be_passed_by_name(self):
        self.assertIs(suits(amounts=Amounts(1), kind="stock"), True)

    def test_kind_is_passed_by_name_only(self):
        with self.assertRaises(TypeError):
            suits(Amounts(0), "any")

    def test_every_value_that_is_not_a_kind_is_refused(self):
        for kind in NOT_KINDS:
            with self.assertRaises(InvalidBound, msg=repr(kind)) as caught:
                suits(Amounts(0), kind=kind)
            self.assertEqual(caught.exception.name, "kind")

    def test_the_kind_is_checked_before_the_amounts_are_asked(self):
        for kind in NOT_KINDS:
            with self.assertRaises(InvalidBound, msg=repr(kind)):
                suits(Unasked(), kind=kind)

    def test_a_refused_call_changes_nothing(self):
        amounts, kind = Amounts(2), ["stock", {"any": []}]
        with self.assertRaises(InvalidBound):
            suits(amounts, kind=kind)
        self.assertEqual(kind, ["stock", {"any": []}])
        self.assertEqual(vars(amounts), {"excess": 2})
        self.assertEqual(KINDS, ("even", "stock", "wish", "any"))
        self.assertEqual([suits(amounts, kind=known) for known in KINDS], [False, True, False, True])


if __name__ == "__main__":
    unittest.main()
