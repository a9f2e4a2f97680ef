"""How many right orders a table has, and the number of each one when they stand in ascending order.

A set of pairs is written as an integer here: its bit k is 1 if the table's pair number k is in the set.
"""

from pairorder.errors import InvalidBound, LimitExceeded
from pairorder.kinds import check_kind
from pairorder.orders import Order, check_order
from pairorder.right import check_right, faults_of, marks, pairs_behind
from pairorder.wholes import is_between

# The number of sets of pairs doubles with each pair.
MOST_COUNTED = 12


def check_countable(table):
    """Refuse a table with too many pairs."""
    if len(table) > MOST_COUNTED:
        raise LimitExceeded(MOST_COUNTED)


def set_of(pairs, members):
    """The set of these members of the pairs."""
    return sum([1 << pairs.index(pair) for pair in members])


def bars_of(table, kind):
    """For each pair the sets that bar it: it may stand next once a pair of each of them is placed."""
    pairs, prices = table.pairs(), table.rows()
    behind = marks(table, pairs)
    return [[set_of(pairs, pairs_behind(fault)) for fault in faults_of(prices, behind, pair, kind)] for pair in pairs]


def free_after(bars, placed):
    """The numbers of the pairs that may stand next when this set is placed, ascending."""
    return [k for k, sets in enumerate(bars)
            if not placed >> k & 1 and all([placed & barring != 0 for barring in sets])]


def ways_after(bars):
    """For each set of placed pairs, the number of ways to go on until all are placed."""
    everything = (1 << len(bars)) - 1
    ways = [0] * everything + [1]
    for placed in reversed(range(everything)):
        ways[placed] = sum([ways[placed | 1 << k] for k in free_after(bars, placed)])
    return ways


def turn(bars, ways, placed, number):
    """The pair that is next in the way with this number to go on, and the number of the way to go on behind it."""
    free, rest = free_after(bars, placed), number
    while rest >= ways[placed | 1 << free[0]]:
        rest = rest - ways[placed | 1 << free[0]]
        del free[0]
    return (free[0], rest)


def count(table, *, kind="even"):
    """The number of right orders."""
    check_kind(kind)
    check_countable(table)
    return ways_after(bars_of(table, kind))[0]


def order_at(table, number, *, kind="even"):
    """The right order with this number."""
    check_kind(kind)
    check_countable(table)
    bars = bars_of(table, kind)
    ways = ways_after(bars)
    if not is_between(number, 0, ways[0] - 1):
        raise InvalidBound("number")
    pairs, found, placed, rest = table.pairs(), [], 0, number
    while len(found) < len(pairs):
        k, rest = turn(bars, ways, placed, rest)
        found.append(pairs[k])
        placed = placed | 1 << k
    return Order(found)


def number_of(table, order, *, kind="even"):
    """The number of a right order."""
    check_order(table, order)
    check_kind(kind)
    check_countable(table)
    check_right(table, order, kind)
    bars, pairs, placed, number = bars_of(table, kind), table.pairs(), 0, 0
    ways = ways_after(bars)
    for pair in order.pairs():
        k = pairs.index(pair)
        number = number + sum([ways[placed | 1 << less] for less in free_after(bars, placed) if less < k])
        placed = placed | 1 << k
    return number
