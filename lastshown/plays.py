"""Playing a history, and what went wrong in it."""

from lastshown.carts import PAID, has_line, opened, step, wrongs
from lastshown.errors import NoDeed, NoItem, NoLine, NoPrices
from lastshown.checks import are_prices, is_deed


def check_prices(prices):
    if not are_prices(prices):
        raise NoPrices("not a tuple of 1 to 6 tuples (item, amount) with distinct items")


def check_deeds(deeds, first):
    """NoDeed unless it is a list of deeds; first is the index that its first deed has."""
    if not isinstance(deeds, list):
        raise NoDeed(first)
    for index, deed in enumerate(deeds):
        if not is_deed(deed):
            raise NoDeed(first + index)


def check_playable(cart, deed, index):
    """NoItem or NoLine if the deed cannot be played at this cart."""
    if deed[0] not in ("price", "put", "alter"):
        return
    if deed[1] not in cart.prices:
        raise NoItem(index)
    if deed[0] == "alter" and not has_line(cart, deed[1]):
        raise NoLine(index)


def stages_from(book, cart, deeds, first):
    """A tuple for each deed from this cart on: the lines behind its rule, the items asked about, the cart from then on.

    The first of these deeds has the index first.
    """
    found = []
    for index, deed in enumerate(deeds):
        check_playable(cart, deed, first + index)
        rows, asked, cart = step(book, cart, deed)
        found.append((rows, asked, cart))
    return found


def stages(book, prices, deeds):
    """The stages of a whole history."""
    check_prices(prices)
    check_deeds(deeds, 0)
    return stages_from(book, opened(prices), deeds, 0)


def report(deed, rows, asked):
    """What is told of a deed, from the lines behind its rule and the items asked about."""
    if deed[0] == "price":
        return None
    lines = [(line.item, line.number, line.shown) for line in rows]
    paid = None
    if deed == PAID:
        paid = [(line.item, line.number, line.kept) for line in rows]
    return lines, asked, paid


def play(book, prices, deeds):
    """A report for each deed of a history."""
    played = stages(book, prices, deeds)
    return [report(deed, rows, asked) for deed, (rows, asked, _) in zip(deeds, played)]


def faults(book, prices, deeds):
    """What went wrong at the payments that were done."""
    found = []
    played = stages(book, prices, deeds)
    for index, (rows, _, _) in enumerate(played):
        if deeds[index] == PAID:
            found.extend([(kind, index, line.item) for line in rows for kind in wrongs(line)])
    return found


def shown_at(rows, moment):
    """Whether the shop's prices at a moment are those last shown of the lines of which something was shown."""
    return all([line.shown is None or line.shown == moment[line.item] for line in rows])


def mixtures(book, prices, deeds):
    """The indexes of the person's deeds behind which the prices shown have no common moment."""
    found = []
    played = stages(book, prices, deeds)
    moments = [dict(prices)]
    for index, (rows, _, cart) in enumerate(played):
        if deeds[index][0] == "price":
            moments.append(cart.prices)
        elif not any([shown_at(rows, moment) for moment in moments]):
            found.append(index)
    return found
