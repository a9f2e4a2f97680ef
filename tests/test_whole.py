"""What holds over the whole program: the interface's names and arguments, and points 0.6, 0.7, 0.10 and 0.11."""

import importlib
import inspect
import itertools
import operator
import unittest

from pairorder import (alike, amounts, certificates, counting, desk, errors, kinds, leading, lots, nexts, orders, ranges, right,
                       serving, tables, texts, wholes)
from pairorder.amounts import Amounts
from pairorder.desk import Desk
from pairorder.orders import Order
from pairorder.serving import Server, serving_of
from pairorder.tables import Table

# What the interface lists, with the arguments as Python shows them; methods without the object itself.
FUNCTIONS = {
    wholes: {"is_integer": "value", "is_between": "value, low, high"},
    kinds: {"is_kind": "value", "suits": "amounts, *, kind='even'"},
    serving: {"serving_of": "table, amounts, served", "is_serving": "table, amounts, value"},
    certificates: {"fits": "table, amounts", "shortage": "table, amounts", "is_shortage": "table, amounts, value",
                   "cheapest": "table, amounts", "are_worths": "table, amounts, serving, value",
                   "least_cost": "table, amounts"},
    right: {"faults": "table, order, *, kind='even'", "first_fault": "table, order, *, kind='even'",
            "is_right": "table, order, *, kind='even'", "is_fault": "table, value", "amounts_of": "table, fault",
            "shown": "table, order, fault"},
    nexts: {"may_stand": "table, placed, *, kind='even'", "bar_of": "table, placed, pair, *, kind='even'",
            "stuck": "table, *, kind='even'", "is_stuck": "table, value, *, kind='even'", "has_order": "table, *, kind='even'",
            "least_order": "table, *, kind='even'"},
    counting: {"count": "table, *, kind='even'", "order_at": "table, number, *, kind='even'",
               "number_of": "table, order, *, kind='even'"},
    leading: {"unlike": "one, other", "led": "table, one, other, *, kind='even'",
              "is_led": "table, one, other, value, *, kind='even'"},
    alike: {"parted": "table, one, other", "parting": "table, one, other", "normal": "table, order"},
    ranges: {"slack": "table, order, *, kind='even'", "steady": "table, order, *, kind='even'",
             "price_range": "table, order, pair, *, kind='even'"},
    lots: {"leave_outs": "table, *, kind='even'", "is_monge": "table", "by_rows": "table", "by_columns": "table",
           "by_price": "table"},
    texts: {"show_table": "table", "show_order": "order", "show_amounts": "amounts", "read_table": "text", "read_order": "text",
            "read_amounts": "text"},
    # Classes, by the arguments of their constructors.
    errors: {"InvalidTable": "at", "InvalidAmounts": "word, at", "InvalidOrder": "at", "InvalidPair": "pair",
             "InvalidBound": "name", "InvalidCall": "call", "InvalidText": "line, word", "NotRight": "fault", "NoOrder": "stuck",
             "NoFit": "shortage", "LimitExceeded": "limit"},
    tables: {"Table": "rows"},
    amounts: {"Amounts": "stocks, wishes"},
    orders: {"Order": "pairs"},
    desk: {"Desk": "table, *, kind='even'"},
}
METHODS = {
    Table: {"has_cell": "value", "pairs": "", "stocks": "", "wishes": "", "rows": "", "shifted": "stock_adds, wish_adds",
            "with_price": "pair, price", "without": "stocks, wishes", "turned": "",
            "filled": "stock_count, wish_count, price"},
    Amounts: {"stocks": "", "wishes": "", "over": "", "fits_size": "table", "zeros": "stock_count, wish_count"},
    Order: {"place": "pair", "exchanged": "k", "moved": "pair, place", "turned": "", "pairs": ""},
    Server: {"__init__": "table, order", "__call__": "amounts", "steps": "amounts"},
    serving.Serving: {"moved": "", "cost": "", "total": "", "left_stocks": "", "left_wishes": "", "is_full": "", "amounts": ""},
    Desk: {"bar": "pair", "set_order": "order", "set_kind": "kind", "table": "", "amounts": "", "order": "", "first_fault": "",
           "serving": "", "cost": "", "stuck_set": "", "log": "", "undo": "many=1", "redo": "many=1", "trial": "work"},
}
TABLE = Table([[4, 1], [2, 3]])
AMOUNTS = Amounts([5, 2], [3, 4])
ORDER = Order([(0, 1), (0, 0), (1, 0), (1, 1)])
OTHER = Order([(1, 0), (1, 1), (0, 1), (0, 0)])
BAD = Order([(0, 0), (0, 1), (1, 0), (1, 1)])
CHEAPEST, WORTHS = certificates.cheapest(TABLE, AMOUNTS)


def desk_like(table=TABLE, kind="even"):
    """A desk with three deeds that stand and one that can be redone."""
    made = Desk(table, kind=kind)
    made += Amounts([5, 2], [3, 4])
    made[0, 0] = 9
    made.set_kind("stock")
    made.set_kind("any")
    made.undo()
    return made


def changed(method):
    """What a deed of this name does to a desk."""
    def work(**arguments):
        made = desk_like()
        getattr(made, method)(**arguments)
        return (made.log(), made.kind, made.table(), made.order())
    return work


def told(error_class):
    return lambda **arguments: list(vars(error_class(**arguments)).items())


# Each function, class and method of more than no arguments: what is called, and its arguments in the listed sequence.
CALLS = [
    (wholes.is_integer, {"value": 3}), (wholes.is_between, {"value": 3, "low": 2, "high": 9}),
    (kinds.is_kind, {"value": "any"}), (kinds.suits, {"amounts": AMOUNTS, "kind": "stock"}),
    (Table, {"rows": [[1, None]]}), (Table.filled, {"stock_count": 2, "wish_count": 3, "price": 4}),
    (TABLE.has_cell, {"value": (1, 1)}), (TABLE.shifted, {"stock_adds": [1, 2], "wish_adds": [10, 20]}),
    (TABLE.with_price, {"pair": (0, 1), "price": None}), (TABLE.without, {"stocks": [0], "wishes": [1]}),
    (Amounts, {"stocks": [1, 2], "wishes": [3]}), (Amounts.zeros, {"stock_count": 2, "wish_count": 3}),
    (AMOUNTS.fits_size, {"table": TABLE}), (Order, {"pairs": [(0, 1), (1, 0)]}), (ORDER.place, {"pair": (1, 0)}),
    (ORDER.exchanged, {"k": 1}), (ORDER.moved, {"pair": (1, 0), "place": 0}),
    (lambda **more: Server(**more)(AMOUNTS), {"table": TABLE, "order": ORDER}), (Server(TABLE, ORDER), {"amounts": AMOUNTS}),
    (lambda **more: list(Server(TABLE, ORDER).steps(**more)), {"amounts": AMOUNTS}),
    (serving_of, {"table": TABLE, "amounts": AMOUNTS, "served": {(0, 1): 2}}),
    (serving.is_serving, {"table": TABLE, "amounts": AMOUNTS, "value": {(0, 1): 9}}),
    (certificates.fits, {"table": TABLE, "amounts": AMOUNTS}),
    (certificates.shortage, {"table": Table([[3, None], [1, 5]]), "amounts": Amounts([2, 2], [1, 3])}),
    (certificates.is_shortage, {"table": Table([[3, None], [1, 5]]), "amounts": Amounts([2, 2], [1, 3]), "value": ("stock", [0])}),
    (certificates.cheapest, {"table": TABLE, "amounts": AMOUNTS}),
    (certificates.are_worths, {"table": TABLE, "amounts": AMOUNTS, "serving": CHEAPEST, "value": WORTHS}),
    (certificates.least_cost, {"table": TABLE, "amounts": AMOUNTS}),
    (right.faults, {"table": TABLE, "order": BAD, "kind": "any"}),
    (right.first_fault, {"table": TABLE, "order": ORDER, "kind": "any"}),
    (right.is_right, {"table": TABLE, "order": ORDER, "kind": "any"}),
    (right.is_fault, {"table": TABLE, "value": ("cross", (0, 0), (1, 1))}),
    (right.amounts_of, {"table": TABLE, "fault": ("cross", (0, 0), (1, 1))}),
    (right.shown, {"table": TABLE, "order": BAD, "fault": ("cross", (0, 0), (1, 1))}),
    (nexts.may_stand, {"table": TABLE, "placed": [(0, 1)], "kind": "any"}),
    (nexts.bar_of, {"table": TABLE, "placed": [(0, 1)], "pair": (1, 1), "kind": "any"}),
    (nexts.stuck, {"table": Table([[0, 4], [4, 10]]), "kind": "any"}),
    (nexts.is_stuck, {"table": Table([[0, 4], [4, 10]]), "value": [(1, 1)], "kind": "any"}),
    (nexts.has_order, {"table": Table([[0, 4], [4, 10]]), "kind": "any"}), (nexts.least_order, {"table": TABLE, "kind": "any"}),
    (counting.count, {"table": TABLE, "kind": "any"}), (counting.order_at, {"table": TABLE, "number": 3, "kind": "any"}),
    (counting.number_of, {"table": TABLE, "order": nexts.least_order(TABLE, kind="any"), "kind": "any"}),
    (leading.unlike, {"one": ORDER, "other": OTHER}), (leading.led, {"table": TABLE, "one": ORDER, "other": OTHER, "kind": "even"}),
    (leading.is_led, {"table": TABLE, "one": ORDER, "other": OTHER, "value": leading.led(TABLE, ORDER, OTHER), "kind": "even"}),
    (alike.parted, {"table": TABLE, "one": ORDER, "other": OTHER}), (alike.parting, {"table": TABLE, "one": ORDER, "other": OTHER}),
    (alike.normal, {"table": TABLE, "order": OTHER}), (ranges.slack, {"table": TABLE, "order": ORDER, "kind": "even"}),
    (ranges.steady, {"table": TABLE, "order": ORDER, "kind": "even"}),
    (ranges.price_range, {"table": TABLE, "order": ORDER, "pair": (0, 1), "kind": "even"}),
    (lots.leave_outs, {"table": Table([[0, 4], [4, 10]]), "kind": "any"}), (lots.is_monge, {"table": TABLE}),
    (lots.by_rows, {"table": TABLE}), (lots.by_columns, {"table": TABLE}), (lots.by_price, {"table": TABLE}),
    (lambda **more: (Desk(**more).kind, Desk(**more).table()), {"table": TABLE, "kind": "any"}),
    (changed("bar"), {"pair": (0, 1)}), (changed("set_order"), {"order": OTHER}), (changed("set_kind"), {"kind": "wish"}),
    (changed("undo"), {"many": 2}), (changed("redo"), {"many": 1}), (desk_like().trial, {"work": lambda made: made.log()}),
    (texts.show_table, {"table": TABLE}), (texts.show_order, {"order": ORDER}), (texts.show_amounts, {"amounts": AMOUNTS}),
    (texts.read_table, {"text": "1 -"}), (texts.read_order, {"text": "1:2 0:0"}), (texts.read_amounts, {"text": "1 | 2"}),
    (told(errors.InvalidTable), {"at": 3}), (told(errors.InvalidAmounts), {"word": "size", "at": -1}),
    (told(errors.InvalidOrder), {"at": 3}), (told(errors.InvalidPair), {"pair": (9, 9)}),
    (told(errors.InvalidBound), {"name": "kind"}), (told(errors.InvalidCall), {"call": "undo"}),
    (told(errors.InvalidText), {"line": 1, "word": 2}), (told(errors.NotRight), {"fault": ("row", (0, 0), (0, 1))}),
    (told(errors.NoOrder), {"stuck": [(0, 0)]}), (told(errors.NoFit), {"shortage": ("stock", [0])}),
    (told(errors.LimitExceeded), {"limit": 12}),
]


def parameters(work):
    return str(inspect.signature(work))[1:-1]


class Interface(unittest.TestCase):
    def test_functions_and_constructors_have_the_listed_arguments(self):
        for module, listed in FUNCTIONS.items():
            for name, wanted in listed.items():
                self.assertEqual(parameters(getattr(module, name)), wanted, name)

    def test_methods_have_the_listed_arguments(self):
        for owner, listed in METHODS.items():
            for name, wanted in listed.items():
                self.assertIn(name, vars(owner))
                found = parameters(getattr(owner, name))
                if not isinstance(vars(owner)[name], classmethod):
                    found = found.removeprefix("self").removeprefix(", ")
                self.assertEqual(found, wanted, (owner, name))

    def test_each_name_is_defined_in_its_module(self):
        for module, listed in FUNCTIONS.items():
            self.assertIs(importlib.import_module(module.__name__), module)
            for name in listed:
                self.assertEqual(getattr(module, name).__module__, module.__name__)
        for owner in METHODS:
            self.assertIs(getattr(importlib.import_module(owner.__module__), owner.__name__), owner)

    def test_arguments_by_their_names_in_another_sequence(self):
        for work, arguments in CALLS:
            wanted = work(**arguments)
            for names in itertools.permutations(arguments):
                found = work(**{name: arguments[name] for name in names})
                self.assertEqual(found, wanted, (work, names))
            self.assertIsNotNone(wanted)

    def test_each_listed_name_is_called_so(self):
        called = {getattr(work, "__name__", "") for work, _ in CALLS}
        for module, listed in FUNCTIONS.items():
            if module not in (errors, desk):
                self.assertEqual(set(listed) - called, set())

    def test_by_position_and_by_name_is_the_same(self):
        for work, arguments in CALLS:
            # What is wrapped in a function of this file takes its arguments by name.
            if getattr(work, "__module__", "") == __name__:
                continue
            more = {name: value for name, value in arguments.items() if name == "kind"}
            rest = [value for name, value in arguments.items() if name != "kind"]
            self.assertEqual(work(*rest, **more), work(**arguments))

    def test_kind_is_passed_by_name_only(self):
        for module, listed in FUNCTIONS.items():
            for name, wanted in listed.items():
                if "kind" in wanted:
                    parameter = inspect.signature(getattr(module, name)).parameters["kind"]
                    self.assertEqual((parameter.kind, parameter.default), (parameter.KEYWORD_ONLY, "even"))


class Operators(unittest.TestCase):
    """Point 0.11."""

    def objects(self):
        return [TABLE, AMOUNTS, ORDER, CHEAPEST]

    def test_nothing_is_iterated_over(self):
        for held in self.objects() + [desk_like()]:
            for work in (iter, list, tuple, sorted, set, enumerate, sum, any, max, lambda one: [*one], lambda one: dict([one]),
                         lambda one: [entry for entry in one], lambda one: zip(one, one), lambda one: "".join(one)):
                with self.assertRaises(TypeError):
                    work(held)

    def test_equal_and_not_equal(self):
        pairs = [(TABLE, Table([[4, 1], [2, 3]]), Table([[4, 1], [2, None]])), (AMOUNTS, Amounts([5, 2], [3, 4]), Amounts([5, 2], [4, 3])),
                 (ORDER, Order(ORDER.pairs()), OTHER), (CHEAPEST, serving_of(TABLE, AMOUNTS, dict(CHEAPEST.moved())),
                                                        serving_of(TABLE, AMOUNTS, {}))]
        for held, same, other in pairs:
            self.assertIs(held == same, True)
            self.assertIs(held != same, False)
            self.assertIs(held == other, False)
            self.assertIs(held != other, True)

    def test_only_orders_have_a_sequence(self):
        for compare in (operator.lt, operator.le, operator.gt, operator.ge):
            for held in (TABLE, AMOUNTS, CHEAPEST, desk_like()):
                with self.assertRaises(TypeError):
                    compare(held, held)
            self.assertIs(compare(ORDER, OTHER), compare(ORDER.pairs(), OTHER.pairs()))
            self.assertIs(compare(ORDER, Order(ORDER.pairs())), compare(1, 1))

    def test_lengths_and_indexes(self):
        self.assertEqual((len(TABLE), len(ORDER), TABLE[0, 1], ORDER[1], CHEAPEST[0, 1]), (4, 4, 1, (0, 0), 4))
        for held in (AMOUNTS, CHEAPEST, desk_like()):
            with self.assertRaises(TypeError):
                len(held)
        with self.assertRaises(TypeError):
            AMOUNTS[0]

    def test_objects_do_not_change(self):
        """Point 0.7, after all that the tests above did with them, and more."""
        for work, arguments in CALLS:
            work(**arguments)
        self.assertEqual((TABLE.rows(), AMOUNTS.stocks(), AMOUNTS.wishes()), ([[4, 1], [2, 3]], [5, 2], [3, 4]))
        self.assertEqual(ORDER.pairs(), [(0, 1), (0, 0), (1, 0), (1, 1)])
        self.assertEqual((CHEAPEST.cost(), CHEAPEST.moved()), (12, [((0, 0), 1), ((0, 1), 4), ((1, 0), 2)]))
        one, other = desk_like(), desk_like()
        one += AMOUNTS
        one -= AMOUNTS
        one.set_order(ORDER)
        one[0, 0] = 77
        self.assertEqual((AMOUNTS.stocks(), ORDER.pairs()[0], TABLE[0, 0]), ([5, 2], (0, 1), 4))
        self.assertEqual(other.log(), desk_like().log())


class ReturnedLists(unittest.TestCase):
    """Point 0.6: each returned list is a new one, the inner ones too."""

    def test_lists_are_new_at_each_call(self):
        def emptied(value):
            """Empty all lists within a value."""
            if isinstance(value, (list, tuple)):
                for entry in value:
                    emptied(entry)
            if isinstance(value, list):
                value.clear()

        stuck_table, made = Table([[0, 0, None], [None, 0, 0], [0, None, 0]]), desk_like()
        made.set_order(Order(made.table().pairs()))
        stuck_desk = Desk(stuck_table)
        works = [TABLE.pairs, TABLE.rows, AMOUNTS.stocks, AMOUNTS.wishes, ORDER.pairs, CHEAPEST.moved, CHEAPEST.left_stocks,
                 CHEAPEST.left_wishes, made.log, stuck_desk.stuck_set, lambda: certificates.cheapest(TABLE, AMOUNTS)[1],
                 lambda: certificates.shortage(Table([[3, None], [1, 5]]), Amounts([2, 2], [1, 3])),
                 lambda: right.faults(TABLE, BAD, kind="any"), lambda: nexts.may_stand(TABLE, []), lambda: nexts.stuck(stuck_table),
                 lambda: leading.led(TABLE, ORDER, OTHER), lambda: lots.leave_outs(stuck_table)]
        for work in works:
            first = work()
            wanted = repr(first)
            self.assertIsNot(work(), first)
            emptied(first)
            self.assertEqual(repr(work()), wanted)


if __name__ == "__main__":
    unittest.main()
