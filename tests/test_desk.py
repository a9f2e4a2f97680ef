"""Points 14.1 to 14.8, and 0.6 to 0.12 as far as they speak of desks: pairorder/desk.py."""

import itertools
import random
import unittest

from pairorder.amounts import Amounts
from pairorder.desk import Desk
from pairorder.errors import InvalidAmounts, InvalidBound, InvalidCall, InvalidOrder, InvalidPair, NoOrder
from pairorder.kinds import KINDS
from pairorder.nexts import least_order, stuck
from pairorder.orders import Order
from pairorder.right import first_fault
from pairorder.serving import Server, Serving
from pairorder.tables import Table
from plain import cost_of, pairs_of, plain_faults, right_orders, served_by, stuck_sets
from values import GREAT, NOT_INTEGERS, NOT_TWOS, WRONG_KINDS, Checks

ROWS = [[1, 4], [2, 3]]
STUCK_ROWS = [[0, 0, None], [None, 0, 0], [0, None, 0]]
STUCK = [(0, 0), (0, 1), (1, 1), (1, 2), (2, 0), (2, 2)]


def add(desk, amounts):
    before = desk
    desk += amounts
    assert desk is before


def subtract(desk, amounts):
    before = desk
    desk -= amounts
    assert desk is before


def set_price(desk, at, price):
    desk[at] = price


def asked(work, *args, **more):
    """What a call returns, or the error that it raises."""
    try:
        return work(*args, **more)
    except (InvalidCall, InvalidBound) as error:
        return (error.__class__, tuple(vars(error).items()))


def shown(desk):
    """All that a desk tells, but what can be redone."""
    order = desk.order()
    served = asked(desk.serving)
    return [desk.table().rows(), desk.amounts().stocks(), desk.amounts().wishes(), desk.kind, desk.log(),
            order if order is None else order.pairs(), asked(desk.first_fault),
            served.moved() if isinstance(served, Serving) else served, asked(desk.cost), desk.stuck_set()]


def could_be_redone(desk):
    """How many deeds can be redone."""
    many = 0
    while not isinstance(asked(desk.trial, lambda held: held.redo(many + 1)), tuple):
        many += 1
    return many


def everything(desk):
    """All that a desk tells, and how it would be after each number of redone deeds."""
    def after(many):
        def work(held):
            held.redo(many)
            return shown(held)
        return work

    return shown(desk), [desk.trial(after(many)) for many in range(1, could_be_redone(desk) + 1)]


class Starting(Checks):
    def test_the_example(self):
        desk = Desk(Table(ROWS))
        desk[0, 1] = 7
        desk.bar((1, 0))
        desk.undo()
        self.assertEqual(desk.log(), [("price", (0, 1), 7)])

    def test_a_new_desk(self):
        for kind in KINDS:
            desk = Desk(Table(ROWS), kind=kind)
            self.assertEqual((desk.table(), desk.amounts(), desk.kind), (Table(ROWS), Amounts([0, 0], [0, 0]), kind))
            self.assertEqual((desk.log(), desk.order()), ([], least_order(Table(ROWS), kind=kind)))
            self.assertEqual((desk.serving().moved(), desk.cost(), desk.first_fault(), desk.stuck_set()), ([], 0, None, []))
            self.assertIsInstance(desk.serving(), Serving)
            self.refuses(InvalidCall, {"call": "undo"}, desk.undo)
            self.refuses(InvalidCall, {"call": "redo"}, desk.redo)
        self.assertEqual(Desk(Table(ROWS)).kind, "even")
        self.assertEqual(Desk(kind="any", table=Table([[3]])).kind, "any")

    def test_amounts_have_the_size_of_the_table(self):
        for many, wide in [(1, 1), (1, 8), (8, 1), (3, 2), (8, 8)]:
            desk = Desk(Table.filled(many, wide, None))
            self.assertEqual((desk.amounts().stocks(), desk.amounts().wishes()), ([0] * many, [0] * wide))

    def test_wrong_kinds(self):
        for kind in WRONG_KINDS:
            self.refuses(InvalidBound, {"name": "kind"}, Desk, Table(ROWS), kind=kind)
        with self.assertRaises(TypeError):
            Desk(Table(ROWS), "any")

    def test_the_kind_is_only_read(self):
        desk = Desk(Table(ROWS))
        with self.assertRaises(AttributeError):
            desk.kind = "any"
        self.assertEqual((desk.kind, desk.log()), ("even", []))
        self.assertIsInstance(Desk.__dict__["kind"], property)

    def test_iterating_raises_a_type_error(self):
        desk = Desk(Table(ROWS))
        for work in (iter, list, tuple, sorted, lambda held: [*held], lambda held: (0, 0) in held):
            with self.assertRaises(TypeError):
                work(desk)


class Reading(Checks):
    def test_the_price_of_a_cell(self):
        desk = Desk(Table([[1, None], [2, 3]]))
        self.assertEqual([desk[0, 0], desk[0, 1], desk[(1, 1)]], [1, None, 3])
        desk[0, 1] = 9
        self.assertEqual(desk[0, 1], 9)

    def test_what_is_not_a_cell(self):
        desk = Desk(Table([[1, None], [2, 3]]))
        for value in NOT_TWOS + [(2, 0), (0, 2), (-1, 0), (0, -1), (GREAT, 0)]:
            self.refuses(InvalidPair, {"pair": value}, lambda: desk[value])
            self.refuses(InvalidPair, {"pair": value}, set_price, desk, value, 5)
            self.refuses(InvalidPair, {"pair": value}, set_price, desk, value, None)
            self.refuses(InvalidPair, {"pair": value}, desk.bar, value)
        self.assertEqual(everything(desk), everything(Desk(Table([[1, None], [2, 3]]))))


class Deeds(Checks):
    def test_the_entries(self):
        desk = Desk(Table([[1, None], [2, 3]]))
        self.assertIsNone(desk.bar((1, 0)))
        desk[1, 0] = -5
        desk[0, 1] = 10
        add(desk, Amounts([1, 2], [3, 4]))
        subtract(desk, Amounts([1, 0], [0, 4]))
        self.assertIsNone(desk.set_order(Order([(0, 0), (1, 1), (0, 1), (1, 0)])))
        self.assertIsNone(desk.set_order(None))
        self.assertIsNone(desk.set_kind("wish"))
        self.assertEqual(repr(desk.log()), repr([
            ("bar", (1, 0)), ("price", (1, 0), -5), ("price", (0, 1), 10), ("add", [1, 2], [3, 4]),
            ("subtract", [1, 0], [0, 4]), ("order", [(0, 0), (1, 1), (0, 1), (1, 0)]), ("order", None), ("kind", "wish")]))
        self.assertEqual((desk.table(), desk.amounts(), desk.kind),
                         (Table([[1, 10], [-5, 3]]), Amounts([0, 2], [3, 0]), "wish"))

    def test_by_names(self):
        desk = Desk(Table(ROWS))
        desk.bar(pair=(0, 1))
        desk.set_order(order=Order([(1, 1), (1, 0), (0, 0)]))
        desk.set_kind(kind="any")
        desk.undo(many=2)
        desk.redo(many=1)
        self.assertEqual(desk.trial(work=lambda held: held.kind), "even")
        self.assertEqual([entry[0] for entry in desk.log()], ["bar", "order"])

    def test_wrong_prices(self):
        desk = Desk(Table([[1, None], [2, 3]]))
        for price in NOT_INTEGERS:
            for at in [(0, 0), (0, 1)]:
                self.refuses(InvalidBound, {"name": "price"}, set_price, desk, at, price)
            # The cell comes first.
            self.refuses(InvalidPair, {"pair": (2, 0)}, set_price, desk, (2, 0), price)
        self.assertEqual(everything(desk), everything(Desk(Table([[1, None], [2, 3]]))))

    def test_great_and_negative_prices_and_amounts(self):
        desk = Desk(Table(ROWS))
        desk[0, 0] = -GREAT
        desk[1, 1] = GREAT
        add(desk, GREAT * Amounts([1, 1], [1, 1]))
        self.assertEqual(desk.table().rows(), [[-GREAT, 4], [2, GREAT]])
        self.assertEqual((desk.cost(), desk.serving().total()), (0, 2 * GREAT))
        subtract(desk, GREAT * Amounts([1, 0], [1, 0]))
        self.assertEqual(desk.cost(), GREAT * GREAT)

    def test_barring_what_is_barred(self):
        desk = Desk(Table([[1, None], [2, 3]]))
        self.refuses(InvalidCall, {"call": "bar"}, desk.bar, (0, 1))
        desk.bar((0, 0))
        self.refuses(InvalidCall, {"call": "bar"}, desk.bar, (0, 0))
        self.assertEqual(desk.log(), [("bar", (0, 0))])
        for pair in [(1, 0), (1, 1)]:
            desk.bar(pair)
        self.assertEqual((desk.table(), desk.order(), desk.stuck_set()), (Table.filled(2, 2, None), Order([]), []))
        desk[0, 1] = 0
        self.assertEqual(desk.order(), Order([(0, 1)]))

    def test_amounts_of_another_size(self):
        desk = Desk(Table([[1, 4, 0], [2, 3, 0]]))
        add(desk, Amounts([5, 5], [5, 5, 5]))
        for amounts in (Amounts([1], [1, 1, 1]), Amounts([1, 1], [1, 1]), Amounts([1, 1, 1], [1, 1]), Amounts([9] * 8, [9] * 8)):
            for work in (add, subtract):
                self.refuses(InvalidAmounts, {"word": "size", "at": -1}, work, desk, amounts)
        for value in (None, True, 5, "amounts", [1, 1], ([1, 1], [1, 1, 1]), {}, Table([[1, 4, 0], [2, 3, 0]])):
            for work in (add, subtract):
                self.refuses(InvalidAmounts, {"word": "size", "at": -1}, work, desk, value)
        # The size is checked before any line falls below 0.
        self.refuses(InvalidAmounts, {"word": "size", "at": -1}, subtract, desk, Amounts([9, 9], [9, 9]))
        self.assertEqual(desk.log(), [("add", [5, 5], [5, 5, 5])])

    def test_subtracting_down_to_0_and_below(self):
        desk = Desk(Table(ROWS))
        subtract(desk, Amounts([0, 0], [0, 0]))
        add(desk, Amounts([3, 1], [0, 2]))
        for stocks, wishes in [([4, 0], [0, 0]), ([0, 2], [0, 0]), ([0, 0], [1, 0]), ([0, 0], [0, 3]), ([3, 1], [1, 2]),
                               ([3, 2], [0, 2]), ([GREAT, 0], [0, 0])]:
            self.refuses(InvalidCall, {"call": "subtract"}, subtract, desk, Amounts(stocks, wishes))
            self.assertEqual(desk.amounts(), Amounts([3, 1], [0, 2]))
        subtract(desk, Amounts([3, 1], [0, 2]))
        self.assertEqual(desk.amounts(), Amounts([0, 0], [0, 0]))
        self.assertEqual(desk.log(), [("subtract", [0, 0], [0, 0]), ("add", [3, 1], [0, 2]), ("subtract", [3, 1], [0, 2])])

    def test_orders_of_other_pairs(self):
        desk = Desk(Table([[1, None], [2, 3]]))
        for pairs in ([], [(0, 0)], [(0, 0), (1, 0)], [(0, 0), (1, 0), (0, 1)], [(0, 0), (1, 0), (1, 1), (0, 1)],
                      [(0, 0), (1, 0), (7, 7)], [(0, 0), (1, 0), (1, 1), (2, 2)]):
            self.refuses(InvalidOrder, {"at": -1}, desk.set_order, Order(pairs))
        for value in (True, False, 0, "", "order", [(0, 0), (1, 0), (1, 1)], ((0, 0), (1, 0), (1, 1)), {}, []):
            self.refuses(InvalidOrder, {"at": -1}, desk.set_order, value)
        desk.set_order(Order([(1, 1), (0, 0), (1, 0)]))
        self.refuses(InvalidOrder, {"at": -1}, desk.set_order, Order([]))
        self.assertEqual(desk.log(), [("order", [(1, 1), (0, 0), (1, 0)])])
        self.assertEqual(desk.order(), Order([(1, 1), (0, 0), (1, 0)]))

    def test_wrong_kinds(self):
        desk = Desk(Table(ROWS), kind="stock")
        for kind in WRONG_KINDS:
            self.refuses(InvalidBound, {"name": "kind"}, desk.set_kind, kind)
        self.assertEqual((desk.kind, desk.log()), ("stock", []))

    def test_setting_what_is_already_so(self):
        desk = Desk(Table(ROWS))
        desk[0, 0] = 1
        desk.set_kind("even")
        desk.set_order(None)
        add(desk, Amounts.zeros(2, 2))
        subtract(desk, Amounts.zeros(2, 2))
        order = Order([(0, 0), (0, 1), (1, 0), (1, 1)])
        desk.set_order(order)
        desk.set_order(order)
        self.assertEqual(len(desk.log()), 7)
        desk.undo(7)
        desk.set_kind("even")
        self.refuses(InvalidCall, {"call": "redo"}, desk.redo)

    def test_the_own_order_stays_or_goes(self):
        """Point 14.4."""
        own = Order([(1, 1), (0, 0), (1, 0)])
        desk = Desk(Table([[1, None], [2, 3]]))
        desk.set_order(own)
        desk[1, 1] = 50
        add(desk, Amounts([1, 1], [1, 1]))
        subtract(desk, Amounts([1, 0], [1, 0]))
        for kind in KINDS:
            desk.set_kind(kind)
        self.assertEqual(desk.order(), own)
        self.refuses(InvalidCall, {"call": "bar"}, desk.bar, (0, 1))
        self.refuses(InvalidBound, {"name": "price"}, set_price, desk, (0, 1), None)
        self.assertEqual(desk.order(), own)
        desk[0, 1] = 60
        self.assertEqual(desk.order(), least_order(desk.table(), kind="any"))
        desk.undo()
        self.assertEqual(desk.order(), own)
        desk.bar((0, 0))
        self.assertEqual(desk.order(), least_order(desk.table(), kind="any"))
        # A pair that comes back does not bring the own order back.
        desk[0, 0] = 1
        self.assertEqual(desk.order(), least_order(desk.table(), kind="any"))
        self.assertNotEqual(desk.order(), own)
        desk.undo(2)
        self.assertEqual(desk.order(), own)
        desk.set_order(None)
        self.assertEqual(desk.order(), least_order(desk.table(), kind="any"))


class TheOrder(Checks):
    """Point 14.6."""

    def test_an_own_order_need_not_be_right(self):
        desk = Desk(Table([[4, 1], [2, 3]]))
        add(desk, Amounts([5, 2], [3, 4]))
        self.assertEqual((desk.cost(), desk.first_fault(), desk.serving().is_full()), (12, None, True))
        bad = Order([(0, 0), (0, 1), (1, 0), (1, 1)])
        desk.set_order(bad)
        self.assertEqual(desk.order(), bad)
        self.assertEqual((desk.cost(), desk.first_fault()), (20, ("cross", (0, 0), (1, 1))))
        self.assertEqual(desk.serving(), Server(desk.table(), bad)(desk.amounts()))
        desk[0, 0] = -9
        self.assertEqual(desk.first_fault(), None)
        desk.set_kind("any")
        self.assertEqual(desk.first_fault(), first_fault(desk.table(), bad, kind="any"))
        self.assertEqual(desk.stuck_set(), stuck(desk.table(), kind="any"))

    def test_an_own_order_without_pairs(self):
        desk = Desk(Table([[None, None]]))
        desk.set_order(Order([]))
        self.assertEqual((desk.order(), desk.first_fault(), desk.cost()), (Order([]), None, 0))
        add(desk, Amounts([3], [1, 1]))
        self.assertEqual((desk.serving().left_stocks(), desk.serving().left_wishes()), ([3], [1, 1]))
        self.assertEqual(desk.log()[0], ("order", []))

    def test_no_order(self):
        desk = Desk(Table(STUCK_ROWS))
        self.assertIsNone(desk.order())
        self.assertEqual(desk.stuck_set(), STUCK)
        for name in ("serving", "cost", "first_fault"):
            error = self.refuses(InvalidCall, {"call": name}, getattr(desk, name))
            self.assertIs(error.__cause__.__class__, NoOrder)
            self.assertEqual(error.__cause__.stuck, STUCK)
            error.__cause__.stuck.clear()
        self.assertEqual(desk.stuck_set(), STUCK)
        own = Order(STUCK)
        desk.set_order(own)
        self.assertEqual((desk.order(), desk.cost(), desk.stuck_set()), (own, 0, STUCK))
        self.assertEqual(desk.first_fault(), first_fault(desk.table(), own))
        desk.undo()
        self.assertIsNone(desk.order())
        desk[0, 2] = 0
        self.assertEqual(desk.order(), least_order(desk.table()))

    def test_the_least_right_order_follows_the_table_and_the_kind(self):
        desk = Desk(Table([[0, 4], [4, 10]]))
        self.assertEqual(desk.order(), least_order(Table([[0, 4], [4, 10]])))
        desk.set_kind("any")
        self.assertIsNone(desk.order())
        self.assertEqual(desk.stuck_set(), stuck(Table([[0, 4], [4, 10]]), kind="any"))
        self.refuses(InvalidCall, {"call": "cost"}, desk.cost)
        desk[1, 1] = 8
        self.assertEqual(desk.order(), least_order(Table([[0, 4], [4, 8]]), kind="any"))

    def test_amounts_that_do_not_fit(self):
        desk = Desk(Table([[3, None], [1, 5]]))
        add(desk, Amounts([2, 2], [1, 3]))
        self.assertIs(desk.serving().is_full(), False)
        self.assertEqual(desk.cost(), desk.serving().cost())

    def test_8_stocks_and_8_wishes(self):
        desk = Desk(Table([[-i * j * GREAT for j in range(8)] for i in range(8)]))
        add(desk, Amounts([GREAT] * 8, [GREAT] * 8))
        self.assertEqual(desk.cost(), -sum(i * i for i in range(8)) * GREAT * GREAT)
        self.assertEqual(desk.order().pairs(), [(i, j) for i in range(8) for j in range(8)])


class UndoAndRedo(Checks):
    """Point 14.5."""

    def desk(self):
        desk = Desk(Table(ROWS))
        states = [shown(desk)]
        for deed in [lambda: set_price(desk, (0, 1), 7), lambda: desk.set_order(Order([(1, 1), (0, 0), (0, 1), (1, 0)])),
                     lambda: add(desk, Amounts([1, 2], [2, 1])), lambda: desk.bar((1, 1)), lambda: desk.set_kind("wish"),
                     lambda: subtract(desk, Amounts([1, 0], [0, 0]))]:
            deed()
            states.append(shown(desk))
        return desk, states

    def test_one_by_one(self):
        desk, states = self.desk()
        self.assertEqual(len({repr(state) for state in states}), 7)
        for many in range(5, -1, -1):
            self.assertIsNone(desk.undo())
            self.assertEqual(shown(desk), states[many])
        self.refuses(InvalidCall, {"call": "undo"}, desk.undo)
        for many in range(1, 7):
            self.assertIsNone(desk.redo())
            self.assertEqual(shown(desk), states[many])
        self.refuses(InvalidCall, {"call": "redo"}, desk.redo)
        self.assertEqual(shown(desk), states[6])

    def test_several_at_once(self):
        for back in range(1, 7):
            for forth in range(1, back + 1):
                desk, states = self.desk()
                desk.undo(back)
                self.assertEqual(shown(desk), states[6 - back])
                self.refuses(InvalidCall, {"call": "redo"}, desk.redo, back + 1)
                if back < 6:
                    self.refuses(InvalidCall, {"call": "undo"}, desk.undo, 7 - back)
                desk.redo(forth)
                self.assertEqual(shown(desk), states[6 - back + forth])
                self.assertEqual(could_be_redone(desk), back - forth)

    def test_just_as_many_and_one_more(self):
        desk, states = self.desk()
        for many in (7, 8, 100, GREAT):
            self.refuses(InvalidCall, {"call": "undo"}, desk.undo, many)
            self.assertEqual(shown(desk), states[6])
        self.refuses(InvalidCall, {"call": "redo"}, desk.redo, 1)
        desk.undo(6)
        self.assertEqual(shown(desk), states[0])
        for many in (7, 8, 100, GREAT):
            self.refuses(InvalidCall, {"call": "redo"}, desk.redo, many)
            self.assertEqual(shown(desk), states[0])
        self.refuses(InvalidCall, {"call": "undo"}, desk.undo, 1)
        desk.redo(6)
        self.assertEqual(shown(desk), states[6])

    def test_wrong_numbers(self):
        desk, states = self.desk()
        desk.undo(2)
        before = everything(desk)
        for many in NOT_INTEGERS + [0, -1, -2, -GREAT]:
            self.refuses(InvalidBound, {"name": "many"}, desk.undo, many)
            self.refuses(InvalidBound, {"name": "many"}, desk.redo, many)
        self.assertEqual(everything(desk), before)
        # The number is checked before there are too few deeds.
        self.refuses(InvalidBound, {"name": "many"}, Desk(Table(ROWS)).undo, 0)
        self.refuses(InvalidBound, {"name": "many"}, Desk(Table(ROWS)).redo, True)

    def test_a_new_deed_removes_what_could_be_redone(self):
        deeds = [lambda desk: set_price(desk, (0, 1), 7), lambda desk: desk.bar((0, 0)), lambda desk: desk.set_kind("any"),
                 lambda desk: add(desk, Amounts([1, 2], [2, 1])), lambda desk: subtract(desk, Amounts.zeros(2, 2)),
                 lambda desk: desk.set_order(None)]
        for deed in deeds:
            desk, states = self.desk()
            desk.undo(4)
            deed(desk)
            self.refuses(InvalidCall, {"call": "redo"}, desk.redo)
            self.assertEqual(len(desk.log()), 3)
            desk.undo()
            self.assertEqual(shown(desk), states[2])
            self.assertEqual(could_be_redone(desk), 1)

    def test_a_refused_deed_leaves_what_could_be_redone(self):
        desk, states = self.desk()
        desk.undo(3)
        before = everything(desk)
        for error_class, work in [
                (InvalidPair, lambda: set_price(desk, (0, 5), 7)), (InvalidBound, lambda: set_price(desk, (0, 0), None)),
                (InvalidPair, lambda: desk.bar(None)), (InvalidAmounts, lambda: add(desk, Amounts([1], [1]))),
                (InvalidCall, lambda: subtract(desk, Amounts([9, 9], [9, 9]))), (InvalidOrder, lambda: desk.set_order(Order([]))),
                (InvalidBound, lambda: desk.set_kind("odd")), (InvalidCall, lambda: desk.undo(4)),
                (InvalidCall, lambda: desk.redo(4)), (InvalidBound, lambda: desk.redo(None))]:
            self.refuses(error_class, None, work)
            self.assertEqual(everything(desk), before)
        self.assertEqual(len(before[1]), 3)
        desk.redo(3)
        self.assertEqual(shown(desk), states[6])


class Trials(Checks):
    """Point 14.7."""

    def desk(self):
        desk = Desk(Table(ROWS), kind="wish")
        desk.set_order(Order([(1, 1), (0, 0), (0, 1), (1, 0)]))
        add(desk, Amounts([1, 2], [2, 1]))
        desk[0, 0] = 9
        desk.bar((1, 0))
        desk.undo(2)
        return desk

    def test_the_result_is_returned(self):
        desk, held = self.desk(), [1]
        self.assertIs(desk.trial(lambda other: held), held)
        self.assertIs(desk.trial(lambda other: other), desk)
        self.assertIsNone(desk.trial(lambda other: None))
        self.assertEqual(desk.trial(lambda other: other.trial), desk.trial)

    def test_all_is_as_before(self):
        def work(desk):
            desk[0, 1] = 70
            desk.bar((0, 1))
            desk.set_kind("any")
            add(desk, Amounts([5, 5], [5, 5]))
            subtract(desk, Amounts([1, 0], [0, 0]))
            desk.set_order(None)
            return desk.log()

        desk = self.desk()
        before = everything(desk)
        self.assertEqual(len(before[1]), 2)
        for _ in range(3):
            self.assertEqual(len(desk.trial(work)), 8)
            self.assertEqual(everything(desk), before)

    def test_each_deed_alone_and_undo_and_redo(self):
        works = [lambda desk: set_price(desk, (0, 0), 5), lambda desk: desk.bar((0, 0)), lambda desk: desk.set_kind("even"),
                 lambda desk: add(desk, Amounts([1, 1], [1, 1])), lambda desk: subtract(desk, Amounts([1, 1], [1, 1])),
                 lambda desk: desk.set_order(None), lambda desk: desk.undo(), lambda desk: desk.undo(2),
                 lambda desk: desk.redo(), lambda desk: desk.redo(2), lambda desk: (desk.undo(2), desk.set_kind("any")),
                 lambda desk: (desk.redo(2), desk.undo(4), desk.redo(3)), lambda desk: None]
        for work in works:
            desk = self.desk()
            before = everything(desk)
            desk.trial(work)
            self.assertEqual(everything(desk), before)
            desk.redo(2)
            self.assertEqual(desk.log()[2:], [("price", (0, 0), 9), ("bar", (1, 0))])

    def test_errors_are_passed_on(self):
        class Stop(BaseException):
            pass

        def raising(error):
            def work(desk):
                desk[0, 0] = 100
                desk.undo(2)
                desk.set_kind("any")
                raise error
            return work

        desk = self.desk()
        before = everything(desk)
        for error in (ValueError("x"), InvalidCall("undo"), KeyError(3), Stop(), StopIteration(), ArithmeticError()):
            with self.assertRaises(error.__class__) as caught:
                desk.trial(raising(error))
            self.assertIs(caught.exception, error)
            self.assertEqual(everything(desk), before)

    def test_a_refused_deed_within_a_trial(self):
        desk = self.desk()
        before = everything(desk)
        self.refuses(InvalidCall, {"call": "undo"}, desk.trial, lambda held: (held.bar((0, 0)), held.undo(4)))
        self.refuses(InvalidPair, {"pair": (9, 9)}, desk.trial, lambda held: (held.set_kind("any"), held[9, 9]))
        self.assertEqual(everything(desk), before)

    def test_nested_trials_on_the_same_desk(self):
        told = []

        def inner(desk):
            desk.undo(1)
            desk[1, 1] = 66
            told.append(everything(desk))
            return "inner"

        def outer(desk):
            desk.set_kind("stock")
            desk.undo()
            first = everything(desk)
            self.assertEqual(desk.trial(inner), "inner")
            self.assertEqual(everything(desk), first)
            with self.assertRaises(ZeroDivisionError):
                desk.trial(lambda held: (held.redo(), held.bar((0, 0)), 1 // 0))
            self.assertEqual(everything(desk), first)
            desk.redo()
            self.assertEqual(desk.kind, "stock")
            desk.trial(lambda held: held.trial(lambda again: again.trial(inner)))
            return "outer"

        desk = self.desk()
        before = everything(desk)
        self.assertEqual(desk.trial(outer), "outer")
        self.assertEqual(everything(desk), before)
        self.assertEqual(len(told), 2)

    def test_nested_trials_on_another_desk(self):
        desk, other = self.desk(), Desk(Table([[5]]))
        before = everything(desk)

        def work(held):
            held.set_kind("any")
            other.set_kind("stock")
            other.trial(lambda inner: (inner.bar((0, 0)), held.set_kind("even"), held.bar((0, 0))))
            self.assertEqual((other.kind, other[0, 0]), ("stock", 5))
            return (held.kind, held[0, 0])

        self.assertEqual(desk.trial(work), ("even", None))
        self.assertEqual(everything(desk), before)
        # The other desk was not on trial when its kind was set.
        self.assertEqual(other.log(), [("kind", "stock")])

    def test_the_desk_goes_on_after_a_trial(self):
        desk = self.desk()
        desk.trial(lambda held: held.redo(2))
        desk.redo()
        self.assertEqual(desk[0, 0], 9)
        desk.trial(lambda held: held.undo(3))
        desk[0, 0] = 10
        desk.undo(2)
        self.assertEqual((desk[0, 0], could_be_redone(desk)), (1, 2))


class Copies(Checks):
    """Points 0.6 and 14.8."""

    def test_lists_within_the_log(self):
        desk = Desk(Table(ROWS))
        add(desk, Amounts([1, 2], [3, 4]))
        subtract(desk, Amounts([1, 1], [1, 1]))
        desk.set_order(Order([(1, 1), (0, 0), (0, 1), (1, 0)]))
        log = desk.log()
        log[0][1].clear()
        log[0][2][0] = 99
        log[1][1].append(5)
        log[2][1].pop()
        log.clear()
        wanted = [("add", [1, 2], [3, 4]), ("subtract", [1, 1], [1, 1]), ("order", [(1, 1), (0, 0), (0, 1), (1, 0)])]
        self.assertEqual(desk.log(), wanted)
        self.assertEqual((desk.amounts(), desk.order()), (Amounts([0, 1], [2, 3]), Order([(1, 1), (0, 0), (0, 1), (1, 0)])))
        desk.undo(3)
        desk.redo(3)
        self.assertEqual(desk.log(), wanted)
        self.assertEqual(desk.amounts(), Amounts([0, 1], [2, 3]))

    def test_what_is_returned(self):
        desk = Desk(Table(STUCK_ROWS))
        desk.stuck_set().clear()
        desk.table().rows()[0].clear()
        desk.amounts().stocks().clear()
        self.assertEqual((desk.stuck_set(), desk.table().rows(), desk.amounts().stocks()), (STUCK, STUCK_ROWS, [0, 0, 0]))

    def test_what_was_returned_stays(self):
        desk = Desk(Table(ROWS))
        add(desk, Amounts([1, 1], [1, 1]))
        table, amounts, order, serving, log = desk.table(), desk.amounts(), desk.order(), desk.serving(), desk.log()
        desk[0, 0] = 50
        desk.bar((1, 1))
        add(desk, Amounts([9, 9], [9, 9]))
        desk.set_order(Order([(1, 0), (0, 1), (0, 0)]))
        self.assertEqual((table.rows(), amounts.stocks(), order, serving.cost(), log),
                         (ROWS, [1, 1], least_order(Table(ROWS)), 4, [("add", [1, 1], [1, 1])]))

    def test_two_desks_with_the_same_table_and_amounts(self):
        table, amounts, order = Table(ROWS), Amounts([1, 1], [1, 1]), Order([(1, 1), (0, 0), (0, 1), (1, 0)])
        one, other = Desk(table), Desk(table)
        add(one, amounts)
        add(other, amounts)
        one.set_order(order)
        other.set_order(order)
        before = everything(other)
        one[0, 0] = 44
        one.bar((0, 1))
        add(one, amounts)
        one.set_kind("any")
        one.undo(6)
        self.assertEqual(everything(other), before)
        self.assertEqual((one.log(), one.table(), len(other.log())), ([], table, 2))
        self.assertEqual((table.rows(), amounts.stocks(), order.pairs()[0]), (ROWS, [1, 1], (1, 1)))

    def test_a_refused_value_is_carried_as_a_copy(self):
        desk, value = Desk(Table(ROWS)), ([0], 0)
        error = self.refuses(InvalidPair, {"pair": ([0], 0)}, desk.bar, value)
        value[0].append(1)
        self.assertEqual(error.pair, ([0], 0))


class State:
    """What is so on a desk: said plainly."""

    known = {}

    def __init__(self, rows, stocks, wishes, own, kind):
        self.rows, self.stocks, self.wishes, self.own, self.kind = rows, stocks, wishes, own, kind

    def but(self, **more):
        return State(**{**vars(self), **more})

    def with_price(self, at, price, own):
        rows = [list(row) for row in self.rows]
        rows[at[0]][at[1]] = price
        return self.but(rows=rows, own=own)

    def facts(self):
        """The least right order or None, and the greatest stuck set."""
        key = (repr(self.rows), self.kind)
        if key not in self.known:
            right, plain = right_orders(self.rows, self.kind), stuck_sets(self.rows, self.kind)
            greatest = [pair for pair in pairs_of(self.rows) if any(pair in chosen for chosen in plain)]
            self.known[key] = (right[0] if right else None, greatest)
        return self.known[key]

    def shown(self, log):
        least, greatest = self.facts()
        order = least if self.own is None else self.own
        told = [self.rows, self.stocks, self.wishes, self.kind, log, order]
        if order is None:
            told += [(InvalidCall, (("call", "first_fault"),)), (InvalidCall, (("call", "serving"),)),
                     (InvalidCall, (("call", "cost"),))]
        else:
            found, served = plain_faults(self.rows, order, self.kind), served_by(order, self.stocks, self.wishes)
            told += [found[0] if found else None, [(pair, served[pair]) for pair in sorted(served) if served[pair] > 0],
                     cost_of(self.rows, served)]
        return told + [greatest]


class Plain:
    """A desk that keeps the list of all its states."""

    def __init__(self, rows, kind):
        self.states = [State(rows, [0] * len(rows), [0] * len(rows[0]), None, kind)]
        self.entries = []
        self.at = 0

    def now(self):
        return self.states[self.at]

    def act(self, entry, state):
        self.states[self.at + 1:] = [state]
        self.entries[self.at:] = [entry]
        self.at += 1

    def copy(self):
        other = Plain.__new__(Plain)
        other.states, other.entries, other.at = list(self.states), list(self.entries), self.at
        return other

    def shown(self):
        return self.now().shown(self.entries[:self.at])


class LongSequences(Checks):
    def compare(self, desk, plain):
        self.assertEqual(shown(desk), plain.shown())

    def compare_all(self, desk, plain):
        """Also what can be redone."""
        self.compare(desk, plain)
        many = len(plain.states) - 1 - plain.at
        self.assertEqual(could_be_redone(desk), many)
        if many:
            def redone(held):
                held.redo(many)
                return shown(held)
            self.assertEqual(desk.trial(redone), plain.states[-1].shown(plain.entries))

    def cell(self, chance, plain):
        return (chance.randrange(len(plain.now().rows)), chance.randrange(len(plain.now().rows[0])))

    def price(self, chance, desk, plain):
        at, price = self.cell(chance, plain), chance.randint(-3, 3)
        own = None if plain.now().rows[at[0]][at[1]] is None else plain.now().own
        desk[at] = price
        plain.act(("price", at, price), plain.now().with_price(at, price, own))

    def bar(self, chance, desk, plain):
        at = self.cell(chance, plain)
        if plain.now().rows[at[0]][at[1]] is None:
            self.refuses(InvalidCall, {"call": "bar"}, desk.bar, at)
        else:
            desk.bar(at)
            plain.act(("bar", at), plain.now().with_price(at, None, None))

    def amounts(self, chance, plain):
        state = plain.now()
        return [chance.randint(0, 2) for _ in state.stocks], [chance.randint(0, 2) for _ in state.wishes]

    def more(self, chance, desk, plain):
        stocks, wishes = self.amounts(chance, plain)
        add(desk, Amounts(stocks, wishes))
        plain.act(("add", stocks, wishes), plain.now().but(
            stocks=[a + b for a, b in zip(plain.now().stocks, stocks)], wishes=[a + b for a, b in zip(plain.now().wishes, wishes)]))

    def less(self, chance, desk, plain):
        stocks, wishes = self.amounts(chance, plain)
        state = plain.now().but(stocks=[a - b for a, b in zip(plain.now().stocks, stocks)],
                                wishes=[a - b for a, b in zip(plain.now().wishes, wishes)])
        if min(state.stocks + state.wishes) < 0:
            self.refuses(InvalidCall, {"call": "subtract"}, subtract, desk, Amounts(stocks, wishes))
        else:
            subtract(desk, Amounts(stocks, wishes))
            plain.act(("subtract", stocks, wishes), state)

    def order(self, chance, desk, plain):
        pairs = pairs_of(plain.now().rows)
        own = chance.choice([None, chance.sample(pairs, len(pairs))])
        desk.set_order(None if own is None else Order(own))
        plain.act(("order", own), plain.now().but(own=own))

    def wrong_order(self, chance, desk, plain):
        pairs = pairs_of(plain.now().rows)
        self.refuses(InvalidOrder, {"at": -1}, desk.set_order, Order(pairs[1:] if pairs else [(0, 0)]))

    def kind(self, chance, desk, plain):
        kind = chance.choice(KINDS)
        desk.set_kind(kind)
        plain.act(("kind", kind), plain.now().but(kind=kind))

    def undo(self, chance, desk, plain):
        many = chance.randint(1, 4)
        if many > plain.at:
            self.refuses(InvalidCall, {"call": "undo"}, desk.undo, many)
        else:
            desk.undo(many)
            plain.at -= many

    def redo(self, chance, desk, plain):
        many = chance.randint(1, 3)
        if plain.at + many >= len(plain.states):
            self.refuses(InvalidCall, {"call": "redo"}, desk.redo, many)
        else:
            desk.redo(many)
            plain.at += many

    def wrong(self, chance, desk, plain):
        error_class, told, work = chance.choice([
            (InvalidPair, {"pair": (8, 0)}, lambda: set_price(desk, (8, 0), 1)), (InvalidPair, {"pair": None}, lambda: desk.bar(None)),
            (InvalidBound, {"name": "price"}, lambda: set_price(desk, (0, 0), True)),
            (InvalidAmounts, {"word": "size", "at": -1}, lambda: add(desk, Amounts([1], [1]))),
            (InvalidAmounts, {"word": "size", "at": -1}, lambda: subtract(desk, Amounts([1], [1]))),
            (InvalidBound, {"name": "kind"}, lambda: desk.set_kind(None)), (InvalidBound, {"name": "many"}, lambda: desk.undo(0))])
        self.refuses(error_class, told, work)

    def trial(self, chance, desk, plain, depth=0):
        inner, ends_badly = plain.copy(), chance.random() < 0.4

        def work(held):
            self.assertIs(held, desk)
            for _ in range(chance.randint(0, 4)):
                self.one(chance, held, inner, depth + 1)
            if ends_badly:
                raise LookupError("the end")
            return inner.at

        if ends_badly:
            with self.assertRaises(LookupError):
                desk.trial(work)
        else:
            self.assertEqual(desk.trial(work), inner.at)

    def one(self, chance, desk, plain, depth=0):
        works = [self.price, self.price, self.bar, self.more, self.more, self.less, self.order, self.order, self.wrong_order,
                 self.kind, self.undo, self.undo, self.redo, self.redo, self.wrong]
        if depth < 3 and chance.random() < 0.12:
            self.trial(chance, desk, plain, depth)
        else:
            chance.choice(works)(chance, desk, plain)
        self.compare(desk, plain)

    def test_against_a_plain_list_of_states(self):
        for seed in range(14):
            chance = random.Random(seed)
            rows = [[1, 4], [2, 3]] if seed % 2 else [[2, None, 0], [None, 1, 1]]
            kind = KINDS[seed % 4]
            desk, plain = Desk(Table(rows), kind=kind), Plain(rows, kind)
            for at in range(120):
                self.one(chance, desk, plain)
                if at % 6 == 0:
                    self.compare_all(desk, plain)
            self.compare_all(desk, plain)

    def test_two_desks_side_by_side(self):
        for seed in range(6):
            chance = random.Random(100 + seed)
            rows = [[1, 4], [2, 3]]
            table = Table(rows)
            both = [(Desk(table), Plain(rows, "even")), (Desk(table), Plain(rows, "even"))]
            for _ in range(100):
                desk, plain = chance.choice(both)
                self.one(chance, desk, plain)
                for desk, plain in both:
                    self.compare(desk, plain)
            for desk, plain in both:
                self.compare_all(desk, plain)

    def test_thousands_of_deeds(self):
        desk = Desk(Table.filled(8, 8, 0))
        for k in range(3000):
            desk[k % 8, k // 8 % 8] = k
        self.assertEqual((len(desk.log()), desk[7, 7]), (3000, max(k for k in range(3000) if k % 64 == 63)))
        desk.undo(3000)
        self.assertEqual((desk.log(), desk.table()), ([], Table.filled(8, 8, 0)))
        desk.redo(2999)
        desk.redo()
        self.assertEqual(desk.log()[-1], ("price", (2999 % 8, 2999 // 8 % 8), 2999))


class Deep(Checks):
    def test_trials_nested_deep(self):
        def work(many):
            def inner(desk):
                desk[0, 0] = many
                if many:
                    desk.trial(work(many - 1))
                return (desk[0, 0], len(desk.log()))
            return inner

        desk = Desk(Table(ROWS))
        self.assertEqual(desk.trial(work(60)), (60, 1))
        self.assertEqual((desk.log(), desk[0, 0]), ([], 1))

    def test_every_kind_of_two_deeds_back_and_forth(self):
        deeds = [lambda desk: set_price(desk, (0, 0), 5), lambda desk: set_price(desk, (0, 1), 5), lambda desk: desk.bar((1, 1)),
                 lambda desk: desk.set_kind("any"), lambda desk: add(desk, Amounts([1, 2], [2, 1])),
                 lambda desk: subtract(desk, Amounts([1, 0], [0, 1])), lambda desk: desk.set_order(None)]
        for first, second in itertools.product(deeds, repeat=2):
            desk = Desk(Table([[1, None], [2, 3]]))
            add(desk, Amounts([2, 2], [2, 2]))
            desk.set_order(Order([(1, 1), (0, 0), (1, 0)]))
            states = [shown(desk)]
            try:
                for deed in (first, second):
                    deed(desk)
                    states.append(shown(desk))
            except InvalidCall:
                continue
            desk.undo(2)
            self.assertEqual(shown(desk), states[0])
            desk.redo()
            self.assertEqual(shown(desk), states[1])
            desk.redo()
            self.assertEqual(shown(desk), states[2])


if __name__ == "__main__":
    unittest.main()
