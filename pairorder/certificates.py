"""Whether amounts fit a table, what they cost at the least, and the certificates of both answers."""

from pairorder.amounts import check_size
from pairorder.balances import Balance
from pairorder.errors import NoFit
from pairorder.serving import serving_of
from pairorder.wholes import are_integers, are_lines


def balance_of(table, amounts):
    """The balance in which the side with the lesser total gives; if both are equal, the stocks give."""
    if amounts.over() <= 0:
        return Balance(table.rows(), amounts.stocks(), amounts.wishes())
    return Balance(table.turned().rows(), amounts.wishes(), amounts.stocks())


def shortage_in(amounts, balance):
    """The shortage of the amounts whose balance can not be settled.

    The reached givers have pairs with reached takers only. These are met, by the reached givers alone, and one of the
    reached givers still has something left.
    """
    return ("stock" if amounts.over() <= 0 else "wish", balance.reached_givers())


def served_in(table, amounts, balance):
    """The amount that each pair moves in a settled balance."""
    if amounts.over() <= 0:
        return {(i, j): balance.sent[i][j] for i, j in table.pairs()}
    return {(i, j): balance.sent[j][i] for i, j in table.pairs()}


def worths_in(amounts, balance):
    """The worths of the stocks and of the wishes in a settled balance."""
    if amounts.over() <= 0:
        return (balance.giver_worths, balance.taker_worths)
    return (balance.taker_worths, balance.giver_worths)


def shortage(table, amounts):
    """A shortage of the amounts, or None if they fit the table."""
    check_size(table, amounts)
    balance = balance_of(table, amounts)
    return None if balance.settle() else shortage_in(amounts, balance)


def fits(table, amounts):
    """Whether the amounts fit the table."""
    return shortage(table, amounts) is None


def cheapest(table, amounts):
    """A tuple of a cheapest serving of the amounts and its worths."""
    check_size(table, amounts)
    balance = balance_of(table, amounts)
    if not balance.settle():
        raise NoFit(shortage_in(amounts, balance))
    serving = serving_of(table, amounts, served_in(table, amounts, balance))
    return (serving, worths_in(amounts, balance))


def least_cost(table, amounts):
    """The cost of a cheapest serving of the amounts."""
    serving, worths = cheapest(table, amounts)
    return serving.cost()


def is_word(excess, value):
    """Whether any value is a word that a shortage of amounts with this excess may have."""
    return (value == "stock" and excess <= 0) or (value == "wish" and excess >= 0)


def is_short(table, own, other, lines):
    """Whether these stocks hold more than all wishes together that have a pair with at least one of them."""
    met = [j for j in range(table.wishes()) if [i for i in lines if (i, j) in table]]
    return sum([own[i] for i in lines]) > sum([other[j] for j in met])


def is_shortage(table, amounts, value):
    """Whether any value is a shortage of the amounts."""
    check_size(table, amounts)
    if not isinstance(value, tuple) or len(value) != 2 or not is_word(amounts.over(), value[0]):
        return False
    lines = value[1]
    stocks, wishes = amounts.stocks(), amounts.wishes()
    if value[0] == "stock":
        return are_lines(lines, len(stocks)) and is_short(table, stocks, wishes, lines)
    # For wishes all is the same, with the two parts exchanged.
    return are_lines(lines, len(wishes)) and is_short(table.turned(), wishes, stocks, lines)


def are_line_worths(left, worths, excess):
    """Whether the worths of the stocks suit what is left of them, where there are too many by the excess."""
    if excess <= 0:
        return True
    return all([worth <= 0 and (worth == 0 or rest == 0) for worth, rest in zip(worths, left)])


def are_pair_worths(table, serving, stock_worths, wish_worths):
    """Whether no price is less than its worths together, and each one equal to them whose pair moves something."""
    for i, j in table.pairs():
        gap = table[i, j] - stock_worths[i] - wish_worths[j]
        if gap < 0 or (gap > 0 and serving[i, j] > 0):
            return False
    return True


def are_worths(table, amounts, serving, value):
    """Whether any value is worths of the serving, and that is a full serving of these amounts over this table."""
    check_size(table, amounts)
    if not isinstance(value, tuple) or len(value) != 2:
        return False
    stock_worths, wish_worths = value
    if not are_integers(stock_worths, table.stocks()) or not are_integers(wish_worths, table.wishes()):
        return False
    if not serving.is_of(table, amounts) or not serving.is_full():
        return False
    excess = amounts.over()
    return (are_pair_worths(table, serving, stock_worths, wish_worths)
            and are_line_worths(serving.left_stocks(), stock_worths, excess)
            and are_line_worths(serving.left_wishes(), wish_worths, -excess))
