"""Amounts: how much there is of each stock, and how much is wished for by each wish."""

from pairorder.errors import InvalidAmounts, InvalidBound
from pairorder.wholes import MOST_LINES, is_between, is_integer


def check_line_amounts(word, numbers):
    """Refuse what is not a list of the amounts of some lines; `word` says which lines."""
    if not isinstance(numbers, list) or not 1 <= len(numbers) <= MOST_LINES:
        raise InvalidAmounts(word, -1)
    for at, number in enumerate(numbers):
        if not is_integer(number) or number < 0:
            raise InvalidAmounts(word, at)


def check_size(table, amounts):
    """Refuse amounts that do not have as many stocks and as many wishes as the table."""
    if not isinstance(amounts, Amounts) or not amounts.fits_size(table):
        raise InvalidAmounts("size", -1)


class Amounts:
    """An integer of at least 0 for each stock and for each wish."""

    def __init__(self, stocks, wishes):
        check_line_amounts("stocks", stocks)
        check_line_amounts("wishes", wishes)
        self.held = list(stocks)
        self.wished = list(wishes)

    @classmethod
    def zeros(cls, stock_count, wish_count):
        """The amounts of that size with all entries 0."""
        if not is_between(stock_count, 1, MOST_LINES):
            raise InvalidBound("stock_count")
        if not is_between(wish_count, 1, MOST_LINES):
            raise InvalidBound("wish_count")
        return cls([0] * stock_count, [0] * wish_count)

    def __eq__(self, other):
        return isinstance(other, Amounts) and self.held == other.held and self.wished == other.wished

    def __add__(self, other):
        if not isinstance(other, Amounts) or not self.is_as_long(other.held, other.wished):
            raise InvalidAmounts("size", -1)
        return Amounts([one + more for one, more in zip(self.held, other.held)],
                       [one + more for one, more in zip(self.wished, other.wished)])

    def __mul__(self, other):
        if not is_integer(other) or other < 0:
            raise InvalidBound("times")
        return Amounts([other * entry for entry in self.held], [other * entry for entry in self.wished])

    def __rmul__(self, other):
        return self * other

    def is_as_long(self, held, wished):
        """Whether the two lists have one entry for each stock and one for each wish."""
        return len(self.held) == len(held) and len(self.wished) == len(wished)

    def stocks(self):
        """The list of how much there is of each stock."""
        return list(self.held)

    def wishes(self):
        """The list of how much is wished for by each wish."""
        return list(self.wished)

    def over(self):
        """The excess: the total of the stocks minus the total of the wishes."""
        return sum(self.held) - sum(self.wished)

    def fits_size(self, table):
        """Whether the table has as many stocks and as many wishes."""
        return len(self.held) == table.stocks() and len(self.wished) == table.wishes()
