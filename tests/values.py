"""Values that tests pass where something else is asked for. No test of its own."""

import unittest

GREAT = 10 ** 60 - 1

# No integers, whatever Python makes of them.
NOT_INTEGERS = [
    True, False, None, 0.0, 1.0, 2.5, float("nan"), float("inf"), 1j, "", "1", "one", b"1", bytearray(b"1"),
    [], [1], [1, 2], (), (1,), (1, 2), {}, {1: 1}, set(), {1}, frozenset([1]), range(3), slice(0, 1), int, len, ...,
]
NOT_LISTS = [
    None, True, False, 0, 1, -1, 2.5, "", "ab", b"ab", (), (1, 2), ((1, 2), (3, 4)), {}, {0: 1}, {0: [1]},
    set(), {1}, frozenset([1]), range(2), iter([1]), list, ...,
]
# No tuples of two integers.
NOT_TWOS = [
    None, True, False, 0, 1, -1, GREAT, 0.0, "", "0", "00", "0:0", b"00", [], [0], [0, 0], [(0, 0)], (), (0,), (0, 0, 0),
    ((0, 0),), ((0, 0), (0, 0)), (True, 0), (0, True), (False, False), (True, True), (0.0, 0), (0, 0.0), ("0", 0),
    (0, "0"), (None, 0), (0, None), ([0], 0), (0, [0]), ({}, 0), (0, {}), ([], {}), (0, set()), ((0,), 0), {},
    {0: 0}, {(0, 0): 0}, set(), {0}, {(0, 0)}, frozenset([0]), range(2), slice(0, 1), slice(None), float("nan"), 1j,
    tuple, ..., [[[[[[[0]]]]]]], (([([(0, [0])], 0)], 0), 0),
]
WRONG_KINDS = [
    None, True, False, 0, 3, "", "Even", "even ", "odd", "stocks", b"any", [], ["any"], (), ("even",), {}, {"any": 1},
    {"even"}, str, ...,
]


class Checks(unittest.TestCase):
    """Tests that ask for an error and its attributes."""

    def refuses(self, error_class, told, work, *args, **more):
        """Whether work(*args, **more) raises this very error, with these values in its attributes."""
        with self.assertRaises(error_class, msg=repr((args, more))) as caught:
            work(*args, **more)
        error = caught.exception
        self.assertIs(error.__class__, error_class)
        if told is not None:
            found = vars(error)
            self.assertEqual(list(found), list(told))
            for name, value in told.items():
                # Of equal values, True is not 1.
                self.assertEqual(repr(found[name]), repr(value), name)
        return error
