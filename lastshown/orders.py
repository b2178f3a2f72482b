"""Amounts by their order alone: rules compare prices, and never do more with them."""

from lastshown.checks import HIGHEST


def in_order(amounts):
    """The distinct amounts among these values, ascending; None is left out."""
    return sorted({amount for amount in amounts if amount is not None})


def ranks(amounts):
    """The same tuple for all values in the same order; None stays None."""
    order = in_order(amounts)
    return tuple([None if amount is None else order.index(amount) for amount in amounts])


def places(amounts):
    """The distinct amounts among these values, and one amount below, between and above them."""
    order = in_order(amounts)
    edges = [0, *order, HIGHEST]
    gaps = [(edges[at] + edges[at + 1]) // 2 for at in range(len(edges) - 1)]
    return order + gaps
