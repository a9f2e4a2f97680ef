"""What the document says, searched through plainly on small tables. No test of its own.

A table is a list of rows, amounts are two lists, an order is a list of pairs and a serving is a dict.
"""

import itertools
import random

WORDS = ("cross", "column", "row")


def pairs_of(rows):
    return [(i, j) for i, row in enumerate(rows) for j, price in enumerate(row) if price is not None]


def all_servings(rows, stocks, wishes):
    """Every serving, by the amount of each pair."""
    found = [{}]
    for i, j in pairs_of(rows):
        longer = []
        for served in found:
            there = stocks[i] - sum(amount for pair, amount in served.items() if pair[0] == i)
            asked = wishes[j] - sum(amount for pair, amount in served.items() if pair[1] == j)
            longer.extend({**served, (i, j): amount} for amount in range(min(there, asked) + 1))
        found = longer
    return found


def full_servings(rows, stocks, wishes):
    total = min(sum(stocks), sum(wishes))
    return [served for served in all_servings(rows, stocks, wishes) if sum(served.values()) == total]


def cost_of(rows, served):
    return sum(rows[i][j] * amount for (i, j), amount in served.items())


def least_cost_of(rows, stocks, wishes):
    """The cost of a cheapest serving, or None if the amounts do not fit."""
    return min((cost_of(rows, served) for served in full_servings(rows, stocks, wishes)), default=None)


def served_by(pairs, stocks, wishes):
    """What one pass through the pairs moves."""
    stocks, wishes, served = list(stocks), list(wishes), {}
    for i, j in pairs:
        served[i, j] = min(stocks[i], wishes[j])
        stocks[i] -= served[i, j]
        wishes[j] -= served[i, j]
    return served


def is_of_kind(stocks, wishes, kind):
    excess = sum(stocks) - sum(wishes)
    return {"even": excess == 0, "stock": excess >= 0, "wish": excess <= 0, "any": True}[kind]


def is_right_for(rows, pairs, kind, most):
    """Whether an order serves at the least cost all amounts of the kind that fit, entries up to `most`."""
    many = len(rows)
    for numbers in itertools.product(range(most + 1), repeat=many + len(rows[0])):
        stocks, wishes = numbers[:many], numbers[many:]
        if is_of_kind(stocks, wishes, kind):
            least = least_cost_of(rows, stocks, wishes)
            served = served_by(pairs, stocks, wishes)
            if least is not None and (sum(served.values()) != min(sum(stocks), sum(wishes))
                                      or cost_of(rows, served) != least):
                return False
    return True


def words_for(kind):
    return {"even": WORDS[:1], "stock": WORDS[:2], "wish": (WORDS[0], WORDS[2]), "any": WORDS}[kind]


def holds(rows, fault, stands_behind):
    """Whether a tuple of two cells is a fault, where `stands_behind(pair)` says which pairs the first one precedes."""
    word, (i, j), (r, s) = fault
    ahead_of = {"cross": [(i, s), (r, j)], "column": [(r, j)], "row": [(i, s)]}[word]
    if {"cross": r == i or s == j, "column": r == i or s != j, "row": r != i or s == j}[word]:
        return False
    for a, b in [(i, j)] + ahead_of:
        if rows[a][b] is None:
            return False
    if not all(stands_behind(pair) for pair in ahead_of):
        return False
    if word == "cross":
        return rows[r][s] is None or rows[i][j] + rows[r][s] > rows[i][s] + rows[r][j]
    return rows[i][j] > rows[r][s]


def faults_behind(rows, pair, kind, stands_behind):
    cells = [(r, s) for r in range(len(rows)) for s in range(len(rows[0]))]
    return [(word, pair, cell) for word in words_for(kind) for cell in cells if holds(rows, (word, pair, cell), stands_behind)]


def plain_faults(rows, pairs, kind):
    found = []
    for k, pair in enumerate(pairs):
        found.extend(faults_behind(rows, pair, kind, lambda other: other in pairs[k + 1:]))
    return found


def right_orders(rows, kind):
    """The right orders, ascending, as lists."""
    return [list(order) for order in itertools.permutations(pairs_of(rows)) if not plain_faults(rows, list(order), kind)]


def disagreements(one, other):
    """The sets of two pairs on which two orders disagree, each as an ascending tuple, in ascending order."""
    return [(p, q) for p, q in itertools.combinations(sorted(one), 2)
            if (one.index(p) < one.index(q)) != (other.index(p) < other.index(q))]


def exchanged(pairs, k):
    """The order in which the pairs at the places k and k + 1 have changed places."""
    return pairs[:k] + [pairs[k + 1], pairs[k]] + pairs[k + 2:]


def may_follow(rows, placed, pair, kind):
    return not faults_behind(rows, pair, kind, lambda other: other not in placed)


def is_orderable(rows, kind):
    """Whether there is a right order: any pair that may stand next is taken, until there is none (point 8.4)."""
    left = pairs_of(rows)
    while left:
        placed = [pair for pair in pairs_of(rows) if pair not in left]
        free = [pair for pair in left if may_follow(rows, placed, pair, kind)]
        if not free:
            return False
        left.remove(free[-1])
    return True


def stuck_sets(rows, kind):
    """Every stuck set, as an ascending list."""
    pairs = pairs_of(rows)
    found = []
    for many in range(1, len(pairs) + 1):
        for chosen in itertools.combinations(pairs, many):
            placed = [pair for pair in pairs if pair not in chosen]
            if not any(may_follow(rows, placed, pair, kind) for pair in chosen):
                found.append(list(chosen))
    return found


def some_rows(seed, many, wide, low=-2, high=2, barred=0.25):
    """Rows by chance, but the same ones in each run."""
    chance = random.Random(seed)
    return [[None if chance.random() < barred else chance.randint(low, high) for _ in range(wide)] for _ in range(many)]


def small_tables(count, most_pairs=6):
    """Rows of several small sizes, some with barred cells."""
    found = [[[0]], [[None]], [[None, None], [None, None]], [[4, 1], [2, 3]], [[1, 2], [2, 1]], [[0, None], [None, 0]],
             [[0, 0, None], [None, 0, 0], [0, None, 0]], [[0, 0], [0, None]]]
    sizes = [(1, 3), (3, 1), (2, 2), (2, 3), (3, 2), (3, 3), (2, 2), (2, 4), (4, 2)]
    for seed in range(count):
        many, wide = sizes[seed % len(sizes)]
        barred = (0.0 if seed % 2 else 0.3) if many * wide <= most_pairs else 0.5
        rows = some_rows(seed, many, wide, barred=barred)
        if len(pairs_of(rows)) <= most_pairs:
            found.append(rows)
    return found
