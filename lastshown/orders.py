"""Amounts by their order alone: rules compare prices, and never do more with them.

What lines hold (the price kept and the one last shown) is told in its order as 2, 4, 6 .., and the shop's price by its
spot among these: 2, 4, 6 .. if it is one of them, 1, 3, 5 .. if it is below, between or above them.
"""

# What a line can hold, the price kept and the one last shown: nothing shown, the price kept, a higher or a lower one.
HOLDINGS = ((2, None), (2, 2), (2, 4), (4, 2))


def in_order(amounts):
    """The distinct amounts among these values, ascending; None is left out."""
    return sorted({amount for amount in amounts if amount is not None})


def settled(price, held):
    """The spot of the shop's price and the tuple of what is held, told by their order."""
    order = in_order(held)
    below = len([amount for amount in order if amount < price])
    spot = 2 * below + (2 if price in order else 1)
    return spot, tuple([None if amount is None else 2 * order.index(amount) + 2 for amount in held])


def spots(held):
    """All spots that the shop's price can have."""
    return list(range(1, 2 * len(in_order(held)) + 2))


def new_spots(held):
    """The spots at which the shop's price is none of the prices held."""
    return list(range(1, 2 * len(in_order(held)) + 2, 2))
