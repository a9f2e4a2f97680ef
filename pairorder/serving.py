"""Servings: how much each pair moves, and the server that moves it in the sequence of an order."""

from pairorder.amounts import check_size
from pairorder.errors import InvalidAmounts, InvalidPair
from pairorder.orders import check_order
from pairorder.wholes import is_integer, is_two


class Serving:
    """The amount that each pair of a table moves; a pair that `shares` does not name moves 0."""

    def __init__(self, table, amounts, shares):
        self.grid = table
        self.given = amounts
        self.shares = {pair: shares.get(pair, 0) for pair in table.pairs()}

    def __getitem__(self, at):
        if at not in self.grid:
            raise InvalidPair(at)
        return self.shares[at]

    def __iter__(self):
        raise TypeError("a serving is not iterated over; its method moved gives a list")

    def __eq__(self, other):
        return (isinstance(other, Serving) and self.grid == other.grid and self.given == other.given
                and self.shares == other.shares)

    def is_of(self, table, amounts):
        """Whether it is a serving of these amounts over this table."""
        return self.grid == table and self.given == amounts

    def moved(self):
        """The list of tuples (pair, amount) with an amount above 0, in ascending order of the pairs."""
        return [(pair, self.shares[pair]) for pair in self.grid.pairs() if self.shares[pair] > 0]

    def cost(self):
        """The sum of price times amount."""
        return sum([self.grid[pair] * amount for pair, amount in self.moved()])

    def total(self):
        """The sum of the amounts that are moved."""
        return sum([amount for pair, amount in self.moved()])

    def left_stocks(self):
        """The list of what is left of each stock."""
        return [there - sum([amount for pair, amount in self.moved() if pair[0] == i])
                for i, there in enumerate(self.given.stocks())]

    def left_wishes(self):
        """The list of what is left of each wish."""
        return [asked - sum([amount for pair, amount in self.moved() if pair[1] == j])
                for j, asked in enumerate(self.given.wishes())]

    def is_full(self):
        """Whether the lesser one of the two totals of the amounts is moved."""
        return sum(self.left_stocks()) == 0 or sum(self.left_wishes()) == 0

    def amounts(self):
        """The amounts that are served."""
        return self.given


class Server:
    """Serves amounts in one pass through the pairs of an order."""

    def __init__(self, table, order):
        check_order(table, order)
        self.grid = table
        self.turns = order.pairs()

    def __call__(self, amounts):
        return Serving(self.grid, amounts, dict(self.steps(amounts)))

    def steps(self, amounts):
        """The tuple (pair, amount) of each pair, in the sequence of the order."""
        check_size(self.grid, amounts)
        stocks_left = amounts.stocks()
        wishes_left = amounts.wishes()
        for i, j in self.turns:
            amount = stocks_left[i] if stocks_left[i] < wishes_left[j] else wishes_left[j]
            stocks_left[i] = stocks_left[i] - amount
            wishes_left[j] = wishes_left[j] - amount
            yield ((i, j), amount)


def has_pair_keys(served):
    """Whether any value is a dict whose keys are tuples of two integers."""
    return isinstance(served, dict) and all([is_two(key) for key in served])


def strange_key(table, served):
    """The least key that is not a pair of the table, or None."""
    least = None
    for key in served:
        if key not in table and (least is None or key < least):
            least = key
    return least


def is_within(amounts, served):
    """Whether the dict moves integers of at least 0, and nowhere more than the amounts have."""
    if not all([is_integer(amount) and amount >= 0 for amount in served.values()]):
        return False
    stocks_left = amounts.stocks()
    wishes_left = amounts.wishes()
    for i, j in served:
        stocks_left[i] = stocks_left[i] - served[i, j]
        wishes_left[j] = wishes_left[j] - served[i, j]
    return all([left >= 0 for left in stocks_left + wishes_left])


def serving_of(table, amounts, served):
    """The serving that moves `served[pair]` for each key of the dict, and 0 for all other pairs."""
    check_size(table, amounts)
    if not has_pair_keys(served):
        raise InvalidPair(None)
    key = strange_key(table, served)
    if key is not None:
        raise InvalidPair(key)
    if not is_within(amounts, served):
        raise InvalidAmounts("serving", -1)
    return Serving(table, amounts, served)


def is_serving(table, amounts, value):
    """Whether `serving_of` would return a serving for any value."""
    check_size(table, amounts)
    return has_pair_keys(value) and strange_key(table, value) is None and is_within(amounts, value)
