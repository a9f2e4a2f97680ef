"""Tables, orders and amounts as texts, and the way back."""

from pairorder.amounts import Amounts
from pairorder.errors import InvalidText
from pairorder.orders import Order
from pairorder.tables import Table

DIGITS = "0123456789"
# The digits of the lines that an order may name.
LINE_DIGITS = "01234567"
MOST_DIGITS = 60
# The word of a barred cell, and the one between the stocks and the wishes of amounts.
BARRED = "-"
BETWEEN = "|"


def show_table(table):
    """The text of a table: a line for each stock, a word for each wish."""
    return "\n".join([" ".join([BARRED if price is None else str(price) for price in row]) for row in table.rows()])


def show_order(order):
    """The text of an order: a word for each pair."""
    return " ".join([f"{i}:{j}" for i, j in order.pairs()])


def show_amounts(amounts):
    """The text of amounts: the words of the stocks, a bar, the words of the wishes."""
    words = [str(amount) for amount in amounts.stocks()] + [BETWEEN] + [str(amount) for amount in amounts.wishes()]
    return " ".join(words)


def check_text(text):
    """Refuse what is not a string."""
    if not isinstance(text, str):
        raise InvalidText(-1, -1)


def is_amount_word(word):
    """Whether a word is that of an integer of at least 0."""
    if not 1 <= len(word) <= MOST_DIGITS or not all([sign in DIGITS for sign in word]):
        return False
    return word == "0" or word[0] != "0"


def is_integer_word(word):
    """Whether a word is that of an integer."""
    if word.startswith("-"):
        return word != "-0" and is_amount_word(word[1:])
    return is_amount_word(word)


def is_pair_word(word):
    """Whether a word is that of a pair."""
    return len(word) == 3 and word[0] in LINE_DIGITS and word[1] == ":" and word[2] in LINE_DIGITS


def read_row(line, words):
    """The row of a table that the words of a line say."""
    for at, word in enumerate(words):
        if word != BARRED and not is_integer_word(word):
            raise InvalidText(line, at)
    return [None if word == BARRED else int(word) for word in words]


def read_table(text):
    """The table of any text."""
    check_text(text)
    return Table([read_row(line, words.split(" ")) for line, words in enumerate(text.split("\n"))])


def read_order(text):
    """The order of any text."""
    check_text(text)
    words = text.split(" ") if text != "" else []
    for at, word in enumerate(words):
        if not is_pair_word(word):
            raise InvalidText(0, at)
    return Order([(int(word[0]), int(word[2])) for word in words])


def read_amounts(text):
    """The amounts of any text."""
    check_text(text)
    words = text.split(" ")
    for at, word in enumerate(words):
        if not is_amount_word(word) and (word != BETWEEN or words.index(BETWEEN) < at):
            raise InvalidText(0, at)
    if BETWEEN not in words:
        raise InvalidText(0, len(words))
    middle = words.index(BETWEEN)
    return Amounts([int(word) for word in words[:middle]], [int(word) for word in words[middle + 1:]])
