"""What counts as an integer, and as a tuple or a list of integers; and the least one of some."""

# No table and no amounts have more stocks, or more wishes.
MOST_LINES = 8


def is_integer(value):
    """Whether any value is an integer; True and False are not."""
    return isinstance(value, int) and not isinstance(value, bool)


def is_between(value, low, high):
    """Whether any value is an integer from low to high, both included."""
    return is_integer(value) and low <= value <= high


def is_two(value):
    """Whether any value is a tuple of two integers."""
    return isinstance(value, tuple) and len(value) == 2 and is_integer(value[0]) and is_integer(value[1])


def are_integers(value, many):
    """Whether any value is a list of that many integers."""
    return isinstance(value, list) and len(value) == many and all([is_integer(entry) for entry in value])


def are_lines(value, many):
    """Whether any value is a list of numbers from 0 to many - 1, strictly ascending; it may be empty."""
    if not isinstance(value, list) or not all([is_between(entry, 0, many - 1) for entry in value]):
        return False
    return all([value[k] < value[k + 1] for k in range(len(value) - 1)])


def least(numbers):
    """The least one of some integers."""
    found = numbers[0]
    for number in numbers:
        if number < found:
            found = number
    return found
