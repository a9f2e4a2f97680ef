"""What counts as an integer."""


def is_integer(value):
    """Whether any value is an integer; True and False are not."""
    return isinstance(value, int) and not isinstance(value, bool)


def is_between(value, low, high):
    """Whether any value is an integer from low to high, both included."""
    return is_integer(value) and low <= value <= high
