"""The least and the greatest price of a score (point 35)."""

from onescore.meaning import MOST_ROUNDS


def prices_from(score, position, prices, rounds):
    """Returns the prices of what is left from a position on, for each answer there.

    What is left goes up to the while around the position, or to end if there
    is none; prices has this for all positions behind. Whiles are answered yes
    so many times before their no.
    """
    # Where it does not go on further down, it comes back to the while around the position.
    behind = [prices[goal] if goal > position else 0 for goal in score.next[position]]
    kind = score.statements[position][0]
    if kind == "while":
        return [rounds * behind[0] + behind[1]]
    if kind == "message":
        return [behind[0] + 1]
    return behind


def least_price(score):
    """Returns the least price of all bounded, whole ways."""
    prices = [0] * (len(score.statements) + 1)
    for position in reversed(range(len(score.statements))):
        prices[position] = min(prices_from(score, position, prices, 0))
    return prices[0]


def greatest_price(score):
    """Returns the greatest price of all bounded, whole ways."""
    prices = [0] * (len(score.statements) + 1)
    for position in reversed(range(len(score.statements))):
        prices[position] = max(prices_from(score, position, prices, MOST_ROUNDS))
    return prices[0]
