"""Orders that serve all amounts alike: those that agree on every two pairs with a line in common."""

from pairorder.orders import Order, check_order
from pairorder.right import units


def share_line(one, other):
    """Whether two pairs have the same stock or the same wish."""
    return one[0] == other[0] or one[1] == other[1]


def places_in(order):
    """The place of each pair of the order."""
    return {pair: k for k, pair in enumerate(order.pairs())}


def parted(table, one, other):
    """The least tuple of two pairs with a line in common on which the two orders disagree, or None."""
    check_order(table, one)
    check_order(table, other)
    pairs, places, other_places = table.pairs(), places_in(one), places_in(other)
    for k, p in enumerate(pairs):
        for q in pairs[k + 1:]:
            if share_line(p, q) and (places[p] < places[q]) != (other_places[p] < other_places[q]):
                return (p, q)
    return None


def parting(table, one, other):
    """The amounts of the two pairs that `parted` returns, which the two orders serve differently, or None."""
    found = parted(table, one, other)
    return None if found is None else units(table, found[0], found[1])


def least_first(left):
    """The least of the pairs that have no line in common with a pair ahead of them."""
    found, stocks, wishes = left[0], [], []
    for i, j in left:
        if i not in stocks and j not in wishes and (i, j) < found:
            found = (i, j)
        stocks.append(i)
        wishes.append(j)
    return found


def normal(table, order):
    """The least order of the table that serves alike."""
    check_order(table, order)
    left, found = order.pairs(), []
    while left:
        pair = least_first(left)
        left.remove(pair)
        found.append(pair)
    return Order(found)
