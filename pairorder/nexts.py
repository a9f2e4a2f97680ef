"""Which pair may stand next, the least right order, and the stuck sets that show that there is none."""

from pairorder.errors import InvalidOrder, InvalidPair, NoOrder
from pairorder.kinds import check_kind
from pairorder.orders import Order
from pairorder.right import faults_of, marks


def check_placed(table, placed):
    """Refuse what is not a list of different pairs of the table."""
    if not isinstance(placed, list):
        raise InvalidOrder(-1)
    at = first_wrong(table, placed)
    if at is not None:
        raise InvalidOrder(at)


def first_wrong(table, entries):
    """The place of the first entry that is not a pair of the table or is equal to an earlier entry, or None."""
    for at, entry in enumerate(entries):
        if entry not in table or entry in entries[:at]:
            return at
    return None


def not_in(table, pairs):
    """The list of the other pairs of the table, in ascending order."""
    return [pair for pair in table.pairs() if pair not in pairs]


def may_stand(table, placed, *, kind="even"):
    """The list of the pairs that may stand next when these are placed, in ascending order."""
    check_kind(kind)
    check_placed(table, placed)
    free = not_in(table, placed)
    prices, behind = table.rows(), marks(table, free)
    return [pair for pair in free if not faults_of(prices, behind, pair, kind)]


def bar_of(table, placed, pair, *, kind="even"):
    """The first tuple that bars the pair from standing next when these are placed, or None."""
    check_kind(kind)
    check_placed(table, placed)
    if pair not in table or pair in placed:
        raise InvalidPair(pair)
    bars = faults_of(table.rows(), marks(table, not_in(table, placed)), pair, kind)
    return bars[0] if bars else None


def least_free(prices, free, behind, kind):
    """The least of the free pairs that may stand next, or None."""
    for pair in free:
        if not faults_of(prices, behind, pair, kind):
            return pair
    return None


def grown(table, kind):
    """A tuple of the pairs placed, always the least one that may stand next, and of the pairs that are left."""
    prices, free, placed = table.rows(), table.pairs(), []
    behind = marks(table, free)
    pair = least_free(prices, free, behind, kind)
    while pair is not None:
        free.remove(pair)
        behind[pair[0]][pair[1]] = False
        placed.append(pair)
        pair = least_free(prices, free, behind, kind)
    return (placed, free)


def stuck(table, *, kind="even"):
    """The greatest stuck set, as a list in ascending order; it is empty if there is none."""
    check_kind(kind)
    return grown(table, kind)[1]


def is_stuck(table, value, *, kind="even"):
    """Whether any value is a list of different pairs of the table that form a stuck set."""
    check_kind(kind)
    if not isinstance(value, list) or not value or first_wrong(table, value) is not None:
        return False
    prices, behind = table.rows(), marks(table, value)
    return all([len(faults_of(prices, behind, pair, kind)) > 0 for pair in value])


def has_order(table, *, kind="even"):
    """Whether the table has a right order."""
    return not stuck(table, kind=kind)


def least_order(table, *, kind="even"):
    """The least right order."""
    check_kind(kind)
    placed, left = grown(table, kind)
    if left:
        raise NoOrder(left)
    return Order(placed)
