"""Lots of lines to leave out, so that a right order remains, and orders by rows, by columns and by price."""

from pairorder.errors import LimitExceeded
from pairorder.kinds import check_kind
from pairorder.nexts import has_order
from pairorder.orders import Order

# The number of lots doubles with each line.
MOST_LOT_LINES = 8


def lines_of(table):
    """The lines of the table, in ascending order."""
    return [("stock", i) for i in range(table.stocks())] + [("wish", j) for j in range(table.wishes())]


def lots_of(lines):
    """The lots of these lines, those with fewer lines first, those with as many in ascending order."""
    found, last = [[]], [[]]
    while last:
        last = [lot + [line] for lot in last for line in lines if not lot or line > lot[-1]]
        found = found + last
    return found


def numbers_in(lot, word):
    """The numbers of the lines of the lot that have this word, in ascending order."""
    return [number for part, number in lot if part == word]


def leaves_some(table, lot):
    """Whether at least one stock and at least one wish remain without the lot."""
    return len(numbers_in(lot, "stock")) < table.stocks() and len(numbers_in(lot, "wish")) < table.wishes()


def is_enough(table, lot, kind):
    """Whether the table without the lot has a right order for the kind."""
    return has_order(table.without(numbers_in(lot, "stock"), numbers_in(lot, "wish")), kind=kind)


def contains_one(lot, smaller):
    """Whether all lines of one of the smaller lots are in the lot."""
    return any([all([line in lot for line in other]) for other in smaller])


def leave_outs(table, *, kind="even"):
    """The list of all minimal lots, those with fewer lines first."""
    check_kind(kind)
    lines, found = lines_of(table), []
    if len(lines) > MOST_LOT_LINES:
        raise LimitExceeded(MOST_LOT_LINES)
    for lot in lots_of(lines):
        if leaves_some(table, lot) and not contains_one(lot, found) and is_enough(table, lot, kind):
            found.append(lot)
    return found


def is_monge(table):
    """Whether no cell is barred, and no two cells cost more than the two that stand across from them."""
    if len(table) < table.stocks() * table.wishes():
        return False
    return all([table[i, j] + table[i + 1, j + 1] <= table[i, j + 1] + table[i + 1, j]
                for i in range(table.stocks() - 1) for j in range(table.wishes() - 1)])


def by_rows(table):
    """The order of the pairs by stock, and by wish within a stock."""
    return Order(table.pairs())


def by_columns(table):
    """The order of the pairs by wish, and by stock within a wish."""
    return Order(table.turned().pairs()).turned()


def by_price(table):
    """The order of the pairs by price; those with equal prices stand in ascending order."""
    found = []
    for pair in table.pairs():
        place = len([other for other in found if table[other] <= table[pair]])
        found.insert(place, pair)
    return Order(found)
