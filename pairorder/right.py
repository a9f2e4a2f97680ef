"""Whether an order is right for a kind of amounts, and the faults that show why it is not."""

from pairorder.amounts import Amounts
from pairorder.errors import InvalidBound, NotRight
from pairorder.kinds import check_kind
from pairorder.orders import check_order
from pairorder.serving import Server, serving_of


def marks(table, pairs):
    """For each cell of the table whether it is one of the pairs, as a list of rows."""
    rows = [[False] * table.wishes() for i in range(table.stocks())]
    for i, j in pairs:
        rows[i][j] = True
    return rows


def is_cross(prices, pair, cell):
    """Whether the two cells are barred or dearer than the other two cells of their stocks and wishes."""
    i, j = pair
    r, s = cell
    return prices[r][s] is None or prices[i][j] + prices[r][s] > prices[i][s] + prices[r][j]


def stocks_behind(behind, pair):
    """The other stocks whose pairs with the same wish are marked, ascending."""
    i, j = pair
    return [r for r in range(len(behind)) if r != i and behind[r][j]]


def wishes_behind(behind, pair):
    """The other wishes whose pairs with the same stock are marked, ascending."""
    i, j = pair
    return [s for s in range(len(behind[0])) if s != j and behind[i][s]]


def crosses(prices, behind, pair):
    """The crosses of the pair, in ascending order of their second pair."""
    stocks, wishes = stocks_behind(behind, pair), wishes_behind(behind, pair)
    return [("cross", pair, (r, s)) for r in stocks for s in wishes if is_cross(prices, pair, (r, s))]


def columns(prices, behind, pair):
    """The columns of the pair, in ascending order of their second pair."""
    i, j = pair
    return [("column", pair, (r, j)) for r in stocks_behind(behind, pair) if prices[i][j] > prices[r][j]]


def lines(prices, behind, pair):
    """The rows of the pair, in ascending order of their second pair."""
    i, j = pair
    return [("row", pair, (i, s)) for s in wishes_behind(behind, pair) if prices[i][j] > prices[i][s]]


def has_columns(kind):
    """Whether columns are faults for the kind."""
    return kind == "stock" or kind == "any"


def has_rows(kind):
    """Whether rows are faults for the kind."""
    return kind == "wish" or kind == "any"


def faults_of(prices, behind, pair, kind):
    """The faults for the kind whose first pair is this one, if exactly the marked pairs stand behind it."""
    found = crosses(prices, behind, pair)
    if has_columns(kind):
        found = found + columns(prices, behind, pair)
    if has_rows(kind):
        found = found + lines(prices, behind, pair)
    return found


def all_faults(table, order, kind):
    """The faults of an order of the table for the kind, sorted."""
    prices, behind, found = table.rows(), marks(table, table.pairs()), []
    for i, j in order.pairs():
        behind[i][j] = False
        found.extend(faults_of(prices, behind, (i, j), kind))
    return found


def earliest(table, order, kind):
    """The first fault of an order of the table for the kind, or None."""
    found = all_faults(table, order, kind)
    return found[0] if found else None


def check_right(table, order, kind):
    """Refuse an order of the table that is not right for the kind."""
    fault = earliest(table, order, kind)
    if fault is not None:
        raise NotRight(fault)


def faults(table, order, *, kind="even"):
    """The list of all faults of the order for the kind, by place of the first pair, by word and by second pair."""
    check_order(table, order)
    check_kind(kind)
    return all_faults(table, order, kind)


def first_fault(table, order, *, kind="even"):
    """The first fault of the order for the kind, or None."""
    check_order(table, order)
    check_kind(kind)
    return earliest(table, order, kind)


def is_right(table, order, *, kind="even"):
    """Whether the order is right for the kind."""
    return first_fault(table, order, kind=kind) is None


def is_fault(table, value):
    """Whether any value is a fault of at least one order of the table for the kind "any"."""
    if not isinstance(value, tuple) or len(value) != 3 or value[1] not in table or not table.has_cell(value[2]):
        return False
    return value in faults_of(table.rows(), marks(table, table.pairs()), value[1], "any")


def check_fault(known):
    """Refuse a fault that is not known as one."""
    if not known:
        raise InvalidBound("fault")


def units(table, one, other):
    """The amounts that are 1 for each stock and each wish that the two cells name, and 0 for all other lines."""
    (i, j), (r, s) = one, other
    return Amounts([1 if stock == i or stock == r else 0 for stock in range(table.stocks())],
                   [1 if wish == j or wish == s else 0 for wish in range(table.wishes())])


def amounts_of(table, fault):
    """The amounts that an order with this fault does not serve at the least cost."""
    check_fault(is_fault(table, fault))
    return units(table, fault[1], fault[2])


def pairs_behind(fault):
    """The pairs that the first pair of the fault stands ahead of; they serve its amounts better."""
    word, (i, j), (r, s) = fault
    if word == "cross":
        return [(i, s), (r, j)]
    return [(r, s)]


def shown(table, order, fault):
    """A tuple of what the order serves of the amounts of its fault, and of a better serving."""
    check_order(table, order)
    check_fault(is_fault(table, fault) and fault in all_faults(table, order, "any"))
    amounts = units(table, fault[1], fault[2])
    server = Server(table, order)
    return (server(amounts), serving_of(table, amounts, {pair: 1 for pair in pairs_behind(fault)}))
