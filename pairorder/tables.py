"""Tables: the price of one unit from each stock to each wish."""

from pairorder.errors import InvalidBound, InvalidPair, InvalidTable
from pairorder.wholes import MOST_LINES, are_integers, are_lines, is_between, is_integer, is_two


def is_price(value):
    """Whether any value may be the entry of a cell: an integer, or None for a barred cell."""
    return value is None or is_integer(value)


def is_row(value, first):
    """Whether any value may be a row of a table whose row 0 is `first`."""
    if not isinstance(value, list) or not 1 <= len(value) <= MOST_LINES or len(value) != len(first):
        return False
    return all([is_price(entry) for entry in value])


def check_rows(rows):
    """Refuse what are not the rows of a table."""
    if not isinstance(rows, list) or not 1 <= len(rows) <= MOST_LINES:
        raise InvalidTable(-1)
    for i, row in enumerate(rows):
        if not is_row(row, rows[0]):
            raise InvalidTable(i)


def check_price(price):
    """Refuse what may not be the entry of a cell."""
    if not is_price(price):
        raise InvalidBound("price")


def price_sum(one, other):
    """The entry of a cell in the sum of two tables."""
    return None if one is None or other is None else one + other


def price_times(price, factor):
    """The entry of a cell in the multiple of a table."""
    return None if price is None else price * factor


class Table:
    """A price or None for each cell (stock, wish); the cells with a price are the pairs."""

    def __init__(self, rows):
        check_rows(rows)
        self.entries = [list(row) for row in rows]
        self.used = [(i, j) for i, row in enumerate(rows) for j, price in enumerate(row) if price is not None]

    @classmethod
    def filled(cls, stock_count, wish_count, price):
        """The table of that size with the same entry in all cells."""
        if not is_between(stock_count, 1, MOST_LINES):
            raise InvalidBound("stock_count")
        if not is_between(wish_count, 1, MOST_LINES):
            raise InvalidBound("wish_count")
        check_price(price)
        return cls([[price] * wish_count for i in range(stock_count)])

    def __getitem__(self, at):
        if not self.has_cell(at):
            raise InvalidPair(at)
        return self.entries[at[0]][at[1]]

    def __iter__(self):
        raise TypeError("a table is not iterated over; its method pairs gives a list")

    def __contains__(self, x):
        return self.has_cell(x) and self.entries[x[0]][x[1]] is not None

    def __len__(self):
        return len(self.used)

    def __eq__(self, other):
        return isinstance(other, Table) and self.entries == other.entries

    def __add__(self, other):
        if not isinstance(other, Table) or self.stocks() != other.stocks() or self.wishes() != other.wishes():
            raise InvalidTable(-1)
        return Table([[price_sum(price, added) for price, added in zip(row, added_row)]
                      for row, added_row in zip(self.entries, other.entries)])

    def __mul__(self, other):
        if not is_integer(other) or other < 1:
            raise InvalidBound("times")
        return Table([[price_times(price, other) for price in row] for row in self.entries])

    def __rmul__(self, other):
        return self * other

    def has_cell(self, value):
        """Whether any value is a cell of the table, barred or not."""
        return is_two(value) and 0 <= value[0] < self.stocks() and 0 <= value[1] < self.wishes()

    def pairs(self):
        """The list of the pairs, in ascending order."""
        return list(self.used)

    def stocks(self):
        """How many stocks there are."""
        return len(self.entries)

    def wishes(self):
        """How many wishes there are."""
        return len(self.entries[0])

    def rows(self):
        """The list of the rows, one for each stock."""
        return [list(row) for row in self.entries]

    def shifted(self, stock_adds, wish_adds):
        """The table with a number of its stock and a number of its wish added to the price of each pair."""
        if not are_integers(stock_adds, self.stocks()):
            raise InvalidBound("stock_adds")
        if not are_integers(wish_adds, self.wishes()):
            raise InvalidBound("wish_adds")
        return Table([[price_sum(price, stock_add + wish_add) for price, wish_add in zip(row, wish_adds)]
                      for row, stock_add in zip(self.entries, stock_adds)])

    def with_price(self, pair, price):
        """The table with another entry in one cell."""
        if not self.has_cell(pair):
            raise InvalidPair(pair)
        check_price(price)
        rows = self.rows()
        rows[pair[0]][pair[1]] = price
        return Table(rows)

    def without(self, stocks, wishes):
        """The table without these stocks and wishes; the remaining ones are numbered anew."""
        if not are_lines(stocks, self.stocks()) or len(stocks) == self.stocks():
            raise InvalidBound("stocks")
        if not are_lines(wishes, self.wishes()) or len(wishes) == self.wishes():
            raise InvalidBound("wishes")
        return Table([[price for j, price in enumerate(row) if j not in wishes]
                      for i, row in enumerate(self.entries) if i not in stocks])

    def turned(self):
        """The table in which stocks and wishes have exchanged their parts."""
        return Table([[row[j] for row in self.entries] for j in range(self.wishes())])
