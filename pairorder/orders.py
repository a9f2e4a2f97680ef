"""Orders: lists of pairs, in the sequence in which they are used."""

from pairorder.errors import InvalidBound, InvalidOrder, InvalidPair
from pairorder.wholes import MOST_LINES, is_between, is_two

# As many pairs as the greatest table has cells.
MOST_PAIRS = 64


def is_orderable(value):
    """Whether any value is a pair that an order may have."""
    return is_two(value) and 0 <= value[0] < MOST_LINES and 0 <= value[1] < MOST_LINES


def check_pairs(pairs):
    """Refuse what is not the list of the pairs of an order."""
    if not isinstance(pairs, list) or len(pairs) > MOST_PAIRS:
        raise InvalidOrder(-1)
    for at, pair in enumerate(pairs):
        if not is_orderable(pair) or pair in pairs[:at]:
            raise InvalidOrder(at)


def check_order(table, order):
    """Refuse an order whose pairs are not exactly the pairs of the table, or of another order in its place."""
    if not isinstance(order, Order) or len(order) != len(table):
        raise InvalidOrder(-1)
    if not all([pair in order for pair in table.pairs()]):
        raise InvalidOrder(-1)


class Order:
    """Different pairs, one behind the other."""

    def __init__(self, pairs):
        check_pairs(pairs)
        self.sequence = list(pairs)

    def __getitem__(self, at):
        if not is_between(at, 0, len(self.sequence) - 1):
            raise InvalidBound("index")
        return self.sequence[at]

    def __iter__(self):
        raise TypeError("an order is not iterated over; its method pairs gives a list")

    def __len__(self):
        return len(self.sequence)

    def __contains__(self, x):
        return is_two(x) and x in self.sequence

    def __eq__(self, other):
        if not isinstance(other, Order):
            return NotImplemented
        return self.sequence == other.sequence

    def __lt__(self, other):
        if not isinstance(other, Order):
            return NotImplemented
        return self.sequence < other.sequence

    def __le__(self, other):
        if not isinstance(other, Order):
            return NotImplemented
        return self.sequence <= other.sequence

    def __gt__(self, other):
        if not isinstance(other, Order):
            return NotImplemented
        return self.sequence > other.sequence

    def __ge__(self, other):
        if not isinstance(other, Order):
            return NotImplemented
        return self.sequence >= other.sequence

    def place(self, pair):
        """The place of the pair; any value that is not in the order is refused."""
        if pair not in self:
            raise InvalidPair(pair)
        return self.sequence.index(pair)

    def exchanged(self, k):
        """The order in which the pairs at the places k and k + 1 have changed places."""
        if not is_between(k, 0, len(self.sequence) - 2):
            raise InvalidBound("index")
        return Order(self.sequence[:k] + [self.sequence[k + 1], self.sequence[k]] + self.sequence[k + 2:])

    def moved(self, pair, place):
        """The order in which the pair stands at the place and all others keep their sequence."""
        if pair not in self:
            raise InvalidPair(pair)
        if not is_between(place, 0, len(self.sequence) - 1):
            raise InvalidBound("place")
        others = [other for other in self.sequence if other != pair]
        return Order(others[:place] + [pair] + others[place:])

    def turned(self):
        """The order with the two numbers of each pair exchanged."""
        return Order([(j, i) for i, j in self.sequence])

    def pairs(self):
        """The list of the pairs."""
        return list(self.sequence)
