"""How far prices may change before a right order is not right any more.

A bound of an order is a tuple of two lists of pairs: those of the first list may cost together at most as much as
those of the second one. The margin of point 12.1 is by how much they cost less.
"""

from pairorder.errors import InvalidPair
from pairorder.kinds import check_kind
from pairorder.orders import check_order
from pairorder.right import check_right, has_columns, has_rows, marks, stocks_behind, wishes_behind
from pairorder.wholes import least


def bounds_of(table, behind, pair, kind):
    """The bounds that come from this pair, if exactly the marked pairs stand behind it."""
    i, j = pair
    stocks, wishes = stocks_behind(behind, pair), wishes_behind(behind, pair)
    found = [([pair, (r, s)], [(i, s), (r, j)]) for r in stocks for s in wishes if (r, s) in table]
    if has_columns(kind):
        found = found + [([pair], [(r, j)]) for r in stocks]
    if has_rows(kind):
        found = found + [([pair], [(i, s)]) for s in wishes]
    return found


def all_bounds(table, order, kind):
    """The bounds of an order of the table for the kind."""
    behind, found = marks(table, table.pairs()), []
    for i, j in order.pairs():
        behind[i][j] = False
        found.extend(bounds_of(table, behind, (i, j), kind))
    return found


def margin(table, bound):
    """By how much the first pairs of the bound cost less than the second ones."""
    cheap, dear = bound
    return sum([table[pair] for pair in dear]) - sum([table[pair] for pair in cheap])


def least_or_none(numbers):
    """The least one of some integers, or None if there are none."""
    return least(numbers) if numbers else None


def slack(table, order, *, kind="even"):
    """The least margin of a right order, or None if it has none."""
    check_order(table, order)
    check_kind(kind)
    check_right(table, order, kind)
    return least_or_none([margin(table, bound) for bound in all_bounds(table, order, kind)])


def steady(table, order, *, kind="even"):
    """By how much all prices may change at the same time, so that the order stays right; None if by any number."""
    check_order(table, order)
    check_kind(kind)
    check_right(table, order, kind)
    # In the worst case all prices of a bound change so that each takes its share of the margin.
    return least_or_none([margin(table, bound) // len(bound[0] + bound[1]) for bound in all_bounds(table, order, kind)])


def price_range(table, order, pair, *, kind="even"):
    """A tuple of the least and the greatest price of the pair for which the order is right; None is no bound."""
    check_order(table, order)
    check_kind(kind)
    if pair not in table:
        raise InvalidPair(pair)
    check_right(table, order, kind)
    bounds = all_bounds(table, order, kind)
    fall = least_or_none([margin(table, bound) for bound in bounds if pair in bound[1]])
    rise = least_or_none([margin(table, bound) for bound in bounds if pair in bound[0]])
    return (None if fall is None else table[pair] - fall, None if rise is None else table[pair] + rise)
