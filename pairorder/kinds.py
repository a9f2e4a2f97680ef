"""The four kinds of amounts."""

from pairorder.errors import InvalidBound

KINDS = ("even", "stock", "wish", "any")


def is_kind(value):
    """Whether any value is one of the four kinds."""
    return isinstance(value, str) and value in KINDS


def check_kind(kind):
    """Refuse what is not a kind."""
    if not is_kind(kind):
        raise InvalidBound("kind")


def suits(amounts, *, kind="even"):
    """Whether the amounts are of the kind."""
    check_kind(kind)
    excess = amounts.over()
    if kind == "even":
        return excess == 0
    if kind == "stock":
        return excess >= 0
    if kind == "wish":
        return excess <= 0
    return True
