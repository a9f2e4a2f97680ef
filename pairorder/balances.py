"""A cheapest way to move all that some lines give to lines that take at least as much, by the way of point 6.5."""

from pairorder.wholes import least

# The way by which a giver is reached that has something left: by no taker.
START = -1


def least_price(row):
    """The least price of a row, or 0 if all its cells are barred."""
    prices = [price for price in row if price is not None]
    return least(prices) if prices else 0


class Balance:
    """Moves more and more, and only over tight pairs: those whose price is the sum of their worths.

    No price is ever less than the sum of the worths, no taker is ever worth more than 0, and a taker that lacks
    something is worth 0. So what is moved is cheapest as soon as nothing is left to give.
    """

    def __init__(self, rows, gives, takes):
        self.entries = rows
        self.spare = list(gives)
        self.lacking = list(takes)
        self.sent = [[0 for take in takes] for give in gives]
        self.giver_worths = [least_price(row) for row in rows]
        self.taker_worths = [0 for take in takes]
        # For each line, the other line from which the last search reached it, or None.
        self.giver_ways = []
        self.taker_ways = []

    def gap(self, i, j):
        """The price of a pair minus the sum of its worths."""
        return self.entries[i][j] - self.giver_worths[i] - self.taker_worths[j]

    def settle(self):
        """Move all there is; return whether that can be done."""
        while sum(self.spare) > 0:
            end = self.search()
            if end is not None:
                self.extend_to(end)
            elif not self.raise_worths():
                return False
        return True

    def search(self):
        """Reach lines from the givers that have something left, those with the fewest pairs between first.

        Returns a reached taker that lacks something, or None if all reached takers are met.
        """
        self.giver_ways = [START if spare > 0 else None for spare in self.spare]
        self.taker_ways = [None for lacks in self.lacking]
        givers = self.reached_givers()
        while givers:
            takers = self.takers_after(givers)
            for j in takers:
                if self.lacking[j] > 0:
                    return j
            givers = self.givers_after(takers)
        return None

    def takers_after(self, givers):
        """The takers that tight pairs reach from these givers for the first time."""
        found = []
        for i in givers:
            for j, price in enumerate(self.entries[i]):
                if price is not None and self.taker_ways[j] is None and self.gap(i, j) == 0:
                    self.taker_ways[j] = i
                    found.append(j)
        return found

    def givers_after(self, takers):
        """The givers that move something to these takers, and are reached for the first time."""
        found = []
        for j in takers:
            for i, row in enumerate(self.sent):
                if row[j] > 0 and self.giver_ways[i] is None:
                    self.giver_ways[i] = j
                    found.append(i)
        return found

    def extend_to(self, end):
        """Move as much as the path to the taker allows: more by its forward pairs, less by its backward pairs."""
        first = self.taker_ways[end]
        forward, backward = [(first, end)], []
        while self.giver_ways[first] != START:
            j = self.giver_ways[first]
            backward.append((first, j))
            first = self.taker_ways[j]
            forward.append((first, j))
        amount = least([self.spare[first], self.lacking[end]] + [self.sent[i][j] for i, j in backward])
        for i, j in forward:
            self.sent[i][j] = self.sent[i][j] + amount
        for i, j in backward:
            self.sent[i][j] = self.sent[i][j] - amount
        self.spare[first] = self.spare[first] - amount
        self.lacking[end] = self.lacking[end] - amount

    def raise_worths(self):
        """Make one more pair tight that leads on from the reached givers; return whether there is any."""
        givers, takers = self.reached_givers(), self.reached_takers()
        gaps = [self.gap(i, j) for i in givers for j, price in enumerate(self.entries[i])
                if price is not None and j not in takers]
        if not gaps:
            return False
        step = least(gaps)
        for i in givers:
            self.giver_worths[i] = self.giver_worths[i] + step
        for j in takers:
            self.taker_worths[j] = self.taker_worths[j] - step
        return True

    def reached_givers(self):
        """The givers that the last search reached, ascending."""
        return [i for i, way in enumerate(self.giver_ways) if way is not None]

    def reached_takers(self):
        """The takers that the last search reached, ascending."""
        return [j for j, way in enumerate(self.taker_ways) if way is not None]
