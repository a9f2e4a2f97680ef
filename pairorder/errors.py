"""The errors of the package, all of them below PairError.

The messages are fixed sentences: a caller's value may be an integer too great to be written out.
They also keep Python from holding on to the lists that an error was passed.
"""


def own_copy(value):
    """The value with new lists and dicts throughout, so that later changes to the passed ones do not reach it."""
    if isinstance(value, list):
        return [own_copy(entry) for entry in value]
    if isinstance(value, tuple):
        return tuple([own_copy(entry) for entry in value])
    if isinstance(value, dict):
        return {key: own_copy(entry) for key, entry in value.items()}
    return value


class PairError(ArithmeticError):
    """The base class of all errors of the package."""


class InvalidTable(PairError):
    """The rows of a table are wrong: the row `at`, or -1 for the rows as a whole."""

    def __init__(self, at):
        super().__init__("a table is wrong; the attribute at is the number of the row")
        self.at = own_copy(at)


class InvalidAmounts(PairError):
    """Amounts are wrong: `word` says which part of them, `at` is the entry, or -1 for the part as a whole."""

    def __init__(self, word, at):
        super().__init__("amounts are wrong; the attributes word and at say where")
        self.word = own_copy(word)
        self.at = own_copy(at)


class InvalidOrder(PairError):
    """The pairs of an order are wrong: the entry `at`, or -1 for the pairs as a whole."""

    def __init__(self, at):
        super().__init__("an order is wrong; the attribute at is the place of the pair")
        self.at = own_copy(at)


class InvalidPair(PairError):
    """The value `pair` is not a cell or a pair where one is asked for."""

    def __init__(self, pair):
        super().__init__("a pair is wrong; the attribute pair is the value")
        self.pair = own_copy(pair)


class InvalidBound(PairError):
    """The argument called `name` is not one of the values that it may have."""

    def __init__(self, name):
        super().__init__("an argument is wrong; the attribute name is its name")
        self.name = own_copy(name)


class InvalidCall(PairError):
    """The state of a desk does not allow the call that is named `call`."""

    def __init__(self, call):
        super().__init__("a desk does not allow this call now; the attribute call is its name")
        self.call = own_copy(call)


class InvalidText(PairError):
    """A text is wrong at the word number `word` of the line number `line`."""

    def __init__(self, line, word):
        super().__init__("a text is wrong; the attributes line and word say where")
        self.line = own_copy(line)
        self.word = own_copy(word)


class NotRight(PairError):
    """An order is not right, as the tuple `fault` shows."""

    def __init__(self, fault):
        super().__init__("an order is not right; the attribute fault shows why")
        self.fault = own_copy(fault)


class NoOrder(PairError):
    """A table has no right order, as the list of pairs `stuck` shows."""

    def __init__(self, stuck):
        super().__init__("a table has no right order; the attribute stuck shows why")
        self.stuck = own_copy(stuck)


class NoFit(PairError):
    """Amounts do not fit a table, as the tuple `shortage` shows."""

    def __init__(self, shortage):
        super().__init__("amounts do not fit a table; the attribute shortage shows why")
        self.shortage = own_copy(shortage)


class LimitExceeded(PairError):
    """A table is greater than the `limit` of the function."""

    def __init__(self, limit):
        super().__init__("a table is too great; the attribute limit is what is allowed")
        self.limit = own_copy(limit)
