"""Desks: a table, amounts, an own order and a kind, which deeds replace; deeds can be undone, and tried out."""

from pairorder.amounts import Amounts, check_size
from pairorder.errors import InvalidBound, InvalidCall, InvalidPair, NoOrder, own_copy
from pairorder.kinds import check_kind
from pairorder.nexts import least_order, stuck
from pairorder.orders import check_order
from pairorder.right import earliest
from pairorder.serving import Server
from pairorder.wholes import is_integer


def check_cell(table, value):
    """Refuse what is not a cell of the table."""
    if not table.has_cell(value):
        raise InvalidPair(value)


def check_many(many, deeds, call):
    """Refuse what is not a number of deeds, or more than there are."""
    if not is_integer(many) or many < 1:
        raise InvalidBound("many")
    if many > len(deeds):
        raise InvalidCall(call)


def lowered(amounts, fewer):
    """The amounts without the fewer ones, line by line."""
    stocks = [there - less for there, less in zip(amounts.stocks(), fewer.stocks())]
    wishes = [asked - less for asked, less in zip(amounts.wishes(), fewer.wishes())]
    if any([number < 0 for number in stocks + wishes]):
        raise InvalidCall("subtract")
    return Amounts(stocks, wishes)


class Desk:
    """Keeps what is so now, and the deeds that led to it."""

    def __init__(self, table, *, kind="even"):
        check_kind(kind)
        # The table, the amounts, the own order or None, and the kind.
        self.present = (table, Amounts.zeros(table.stocks(), table.wishes()), None, kind)
        # The deeds that stand, the oldest first: the entry of each, and what was so before it.
        self.done = []
        # The deeds that can be redone, the one undone last at the end: the entry of each, and what was so after it.
        self.undone = []

    def __getitem__(self, at):
        return self.table()[at]

    def __iter__(self):
        raise TypeError("a desk is not iterated over; its table's method pairs gives a list")

    def __setitem__(self, at, worth):
        table, amounts, own, kind = self.present
        check_cell(table, at)
        if not is_integer(worth):
            raise InvalidBound("price")
        # A barred cell becomes a pair, which the own order does not have.
        kept = own if at in table else None
        self.act(("price", at, worth), (table.with_price(at, worth), amounts, kept, kind))

    def __iadd__(self, other):
        table, amounts, own, kind = self.present
        check_size(table, other)
        self.act(("add", other.stocks(), other.wishes()), (table, amounts + other, own, kind))
        return self

    def __isub__(self, other):
        table, amounts, own, kind = self.present
        check_size(table, other)
        self.act(("subtract", other.stocks(), other.wishes()), (table, lowered(amounts, other), own, kind))
        return self

    def bar(self, pair):
        """Bar a pair; the own order, which has it, goes."""
        table, amounts, own, kind = self.present
        check_cell(table, pair)
        if pair not in table:
            raise InvalidCall("bar")
        self.act(("bar", pair), (table.with_price(pair, None), amounts, None, kind))

    def set_order(self, order):
        """Set the own order, or remove it if the argument is None."""
        table, amounts, own, kind = self.present
        if order is not None:
            check_order(table, order)
        self.act(("order", None if order is None else order.pairs()), (table, amounts, order, kind))

    def set_kind(self, kind):
        """Set the kind."""
        check_kind(kind)
        table, amounts, own, former = self.present
        self.act(("kind", kind), (table, amounts, own, kind))

    def act(self, entry, after):
        """Do a deed with this entry, after which this is so."""
        self.done.append((entry, self.present))
        self.undone = []
        self.present = after

    def undo(self, many=1):
        """Take back the last deeds, as many as that."""
        check_many(many, self.done, "undo")
        for k in range(many):
            entry, before = self.done.pop()
            self.undone.append((entry, self.present))
            self.present = before

    def redo(self, many=1):
        """Do the last undone deeds again, as many as that."""
        check_many(many, self.undone, "redo")
        for k in range(many):
            entry, after = self.undone.pop()
            self.done.append((entry, self.present))
            self.present = after

    def trial(self, work):
        """The result of work(desk); what it does to this desk does not stay."""
        present, done, undone = self.present, list(self.done), list(self.undone)
        try:
            return work(self)
        finally:
            self.present, self.done, self.undone = present, done, undone

    def log(self):
        """The entries of the deeds that stand, the oldest first."""
        return [own_copy(entry) for entry, before in self.done]

    @property
    def kind(self):
        """The present kind."""
        return self.present[3]

    def table(self):
        """The present table."""
        return self.present[0]

    def amounts(self):
        """The present amounts."""
        return self.present[1]

    def used_order(self):
        """The own order, or the least right one; raises NoOrder if there is neither."""
        table, amounts, own, kind = self.present
        return least_order(table, kind=kind) if own is None else own

    def order_for(self, call):
        """The order of the desk for a call that needs one."""
        try:
            return self.used_order()
        except NoOrder as error:
            raise InvalidCall(call) from error

    def served(self, call):
        """What the order of the desk serves of its amounts, for a call that asks for it."""
        server = Server(self.table(), self.order_for(call))
        return server(self.amounts())

    def order(self):
        """The order of the desk, or None if it has none."""
        try:
            return self.used_order()
        except NoOrder:
            return None

    def first_fault(self):
        """The first fault of the order of the desk for its kind, or None."""
        return earliest(self.table(), self.order_for("first_fault"), self.kind)

    def serving(self):
        """What the order of the desk serves of its amounts."""
        return self.served("serving")

    def cost(self):
        """The cost of what the order of the desk serves of its amounts."""
        return self.served("cost").cost()

    def stuck_set(self):
        """The greatest stuck set of the table for the kind, in ascending order; it is empty if there is none."""
        return stuck(self.table(), kind=self.kind)
