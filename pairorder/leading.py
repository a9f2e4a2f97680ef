"""Leading one right order to another one by exchanges of neighbours, all orders on the way being right."""

from pairorder.kinds import check_kind
from pairorder.orders import check_order
from pairorder.right import check_right, faults_of, marks
from pairorder.wholes import are_integers


def unlike(one, other):
    """On how many sets of two pairs the two orders disagree."""
    check_order(one, other)
    places = [other.place(pair) for pair in one.pairs()]
    return sum([len([ahead for ahead in places[:k] if ahead > place]) for k, place in enumerate(places)])


def check_both(table, one, other, kind):
    """Refuse two orders that are not both right orders of the table for the kind."""
    check_order(table, one)
    check_order(table, other)
    check_kind(kind)
    check_right(table, one, kind)
    check_right(table, other, kind)


def led(table, one, other, *, kind="even"):
    """A lead from the first order to the second: a list of the places where neighbours are exchanged.

    Each pair of the second order in its turn moves forward to its place. It may stand there, so by point 8.4 it may
    stand at every later place, too; and the pairs that it passes find one more pair placed ahead of them.
    """
    check_both(table, one, other, kind)
    turns, found = one.pairs(), []
    for k, pair in enumerate(other.pairs()):
        found.extend(list(range(turns.index(pair) - 1, k - 1, -1)))
        turns.remove(pair)
        turns.insert(k, pair)
    return found


def is_led(table, one, other, value, *, kind="even"):
    """Whether any value is a lead from the first order to the second."""
    check_both(table, one, other, kind)
    if not are_integers(value, unlike(one, other)):
        return False
    prices, turns = table.rows(), one.pairs()
    for k in value:
        if not 0 <= k < len(turns) - 1:
            return False
        turns[k], turns[k + 1] = turns[k + 1], turns[k]
        # Only the pair that has come forward has one pair more behind it than before.
        if faults_of(prices, marks(table, turns[k:]), turns[k], kind):
            return False
    return turns == other.pairs()
