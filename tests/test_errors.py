"""Points 1.1, 1.2 and 0.6: pairorder/errors.py."""

import unittest

from pairorder import errors
from pairorder.errors import PairError

ATTRIBUTES = {
    "InvalidTable": ["at"],
    "InvalidAmounts": ["word", "at"],
    "InvalidOrder": ["at"],
    "InvalidPair": ["pair"],
    "InvalidBound": ["name"],
    "InvalidCall": ["call"],
    "InvalidText": ["line", "word"],
    "NotRight": ["fault"],
    "NoOrder": ["stuck"],
    "NoFit": ["shortage"],
    "LimitExceeded": ["limit"],
}
CLASSES = {name: getattr(errors, name) for name in ATTRIBUTES}
ANY_VALUES = [
    -1, 0, 12, 10 ** 60, -10 ** 5000, True, None, 1.5, "", "kind", b"x", (), (0, 1), ("cross", (0, 1), (2, 3)),
    ("stock", [0, 2]), [], [(0, 0), (1, 1)], [[1], [2, [3]]], {}, {(0, 1): [2]}, {1, 2}, frozenset([3]), len,
]


def told(error, names):
    return [getattr(error, name) for name in names]


def placed(value, at, many):
    """`many` arguments, the one at the place `at` being the value."""
    return [value if k == at else 0 for k in range(many)]


def nested():
    value = ["innermost"]
    for _ in range(3):
        value = [(value, 0)]
    return (value,)


def change_innermost(value):
    while value[0] != "innermost":
        value = value[0]
    value.append("more")


class Bases(unittest.TestCase):
    def test_pair_error_is_an_arithmetic_error(self):
        self.assertEqual(PairError.__bases__, (ArithmeticError,))
        self.assertEqual(PairError.__name__, "PairError")

    def test_the_others_stand_directly_below_pair_error(self):
        for name, error_class in CLASSES.items():
            self.assertEqual(error_class.__bases__, (PairError,))
            self.assertEqual(error_class.__name__, name)

    def test_there_are_no_other_errors(self):
        found = {name for name, value in vars(errors).items() if isinstance(value, type)}
        self.assertEqual(found, set(ATTRIBUTES) | {"PairError"})

    def test_each_error_is_of_its_own_class_only(self):
        for name, error_class in CLASSES.items():
            error = error_class(*range(len(ATTRIBUTES[name])))
            self.assertIsInstance(error, PairError)
            self.assertIsInstance(error, ArithmeticError)
            for other, other_class in CLASSES.items():
                self.assertEqual(isinstance(error, other_class), name == other)
            for other_class in (ValueError, LookupError, TypeError, ZeroDivisionError, OverflowError):
                self.assertNotIsInstance(error, other_class)

    def test_each_error_is_caught_by_its_class_and_by_its_bases(self):
        for name, error_class in CLASSES.items():
            for caught_class in (error_class, PairError, ArithmeticError):
                with self.assertRaises(caught_class) as caught:
                    raise error_class(*range(len(ATTRIBUTES[name])))
                self.assertEqual(told(caught.exception, ATTRIBUTES[name]), list(range(len(ATTRIBUTES[name]))))

    def test_pair_error_is_raised_and_caught_as_one(self):
        with self.assertRaises(ArithmeticError) as caught:
            raise PairError()
        for error_class in CLASSES.values():
            self.assertNotIsInstance(caught.exception, error_class)


class Attributes(unittest.TestCase):
    def test_by_position(self):
        for name, names in ATTRIBUTES.items():
            values = ["stocks", -1][:len(names)]
            self.assertEqual(told(CLASSES[name](*values), names), values)

    def test_by_name_in_any_sequence(self):
        for name, names in ATTRIBUTES.items():
            values = ["stocks", -1][:len(names)]
            error = CLASSES[name](**dict(reversed(list(zip(names, values)))))
            self.assertEqual(told(error, names), values)

    def test_the_attributes_are_those_of_the_interface(self):
        for name, names in ATTRIBUTES.items():
            self.assertEqual(sorted(vars(CLASSES[name](*names))), sorted(names))

    def test_too_few_or_too_many_arguments(self):
        for name, names in ATTRIBUTES.items():
            with self.assertRaises(TypeError):
                CLASSES[name](*names[1:])
            with self.assertRaises(TypeError):
                CLASSES[name](*names, 0)
            with self.assertRaises(TypeError):
                CLASSES[name](**{other: 0 for other in names + ["other"]})

    def test_any_value(self):
        for name, names in ATTRIBUTES.items():
            for value in ANY_VALUES:
                for at in range(len(names)):
                    values = placed(value, at, len(names))
                    error = CLASSES[name](*values)
                    self.assertEqual(told(error, names), values)
                    self.assertEqual([k.__class__ for k in told(error, names)], [k.__class__ for k in values])
                    self.assertIsInstance(str(error), str)

    def test_two_errors_do_not_share_attributes(self):
        for name, names in ATTRIBUTES.items():
            first, second = CLASSES[name](*[1, 2][:len(names)]), CLASSES[name](*[3, 4][:len(names)])
            self.assertEqual(told(first, names), [1, 2][:len(names)])
            self.assertEqual(told(second, names), [3, 4][:len(names)])


class OwnCopies(unittest.TestCase):
    def check(self, make, change):
        """What `make` returns is passed as each attribute of each class; `change` changes it afterwards."""
        for name, names in ATTRIBUTES.items():
            for at in range(len(names)):
                passed = make()
                error = CLASSES[name](*placed(passed, at, len(names)))
                self.assertEqual(passed, make())
                change(passed)
                self.assertNotEqual(passed, make())
                self.assertEqual(getattr(error, names[at]), make())

    def test_a_list(self):
        self.check(lambda: [(0, 0), (1, 1)], lambda passed: passed.append((2, 2)))
        self.check(lambda: [3, 4], lambda passed: passed.clear())

    def test_a_list_within_a_tuple(self):
        self.check(lambda: ("stock", [0, 2]), lambda passed: passed[1].append(3))

    def test_a_list_within_a_list(self):
        self.check(lambda: [[0], [1]], lambda passed: passed[0].pop())
        self.check(lambda: [[0], [1]], lambda passed: passed.reverse())

    def test_a_list_deep_within_tuples_and_lists(self):
        self.check(nested, change_innermost)

    def test_a_dict(self):
        self.check(lambda: {(0, 1): 2}, lambda passed: passed.update({(0, 1): 3}))
        self.check(lambda: ["row", {"a": [1]}], lambda passed: passed[1]["a"].append(2))

    def test_by_name(self):
        for name, names in ATTRIBUTES.items():
            passed = {attribute: ("wish", [1, [2]]) for attribute in names}
            error = CLASSES[name](**passed)
            for value in passed.values():
                value[1][1].append(3)
            self.assertEqual(told(error, names), [("wish", [1, [2]])] * len(names))

    def test_changing_the_attribute_leaves_what_was_passed(self):
        for name, names in ATTRIBUTES.items():
            passed = [("wish", [k]) for k in range(len(names))]
            error = CLASSES[name](*passed)
            for attribute in names:
                getattr(error, attribute)[1].append("more")
            self.assertEqual(passed, [("wish", [k]) for k in range(len(names))])

    def test_one_list_for_two_errors(self):
        stuck = [(0, 0)]
        first, second = errors.NoOrder(stuck), errors.NoOrder(stuck)
        first.stuck.append((1, 1))
        self.assertEqual((second.stuck, stuck), ([(0, 0)], [(0, 0)]))

    def test_one_list_for_two_attributes(self):
        shared = [1]
        error = errors.InvalidText(shared, shared)
        error.line.append(2)
        self.assertEqual((error.word, shared), ([1], [1]))

    def test_the_message_stays_when_a_passed_list_changes(self):
        for name, names in ATTRIBUTES.items():
            passed = [[1] for attribute in names]
            error = CLASSES[name](*passed)
            before = (str(error), repr(error))
            passed[0].append(2)
            self.assertEqual((str(error), repr(error)), before)


if __name__ == "__main__":
    unittest.main()
