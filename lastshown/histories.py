"""Histories from plans: lists of deeds in which each new price is told by its spot among the prices held."""

from lastshown.carts import opened, step
from lastshown.orders import in_order

ITEM = "a"
PUT = ("put", "a", 1)
# The deeds of the person at a line that stays, but the payments.
DEEDS = (("put", "a", 1), ("look",), ("alter", "a", 1), ("back",))

# Each new price halves a distance at worst, and there is room for 98 of them. A plan has fewer: it meets no standing of
# its search twice, and never gives an item two new prices in a row.
CEILING = 1_000_000_000_000_000_000_000_000_000_000


def items_of(plan):
    """The items that the deeds of a plan name, in alphabetical order."""
    return sorted({deed[1] for deed in plan if len(deed) == 3})


def held(carts, item):
    """The prices that are kept and were last shown of an item, in order."""
    lines = [line for cart in carts for line in cart.rows if line.item == item]
    return in_order([line.kept for line in lines] + [line.shown for line in lines])


def amount_at(spot, order, used):
    """The amount at a spot; one that is none of those held is none that was used before."""
    if spot % 2 == 0:
        return order[spot // 2 - 1]
    below = 0 if spot == 1 else order[spot // 2 - 1]
    above = min([amount for amount in used if amount > below], default=CEILING)
    return (below + above) // 2


def priced(deed, carts, used):
    """The deed of a plan as a deed of a history."""
    if deed[0] != "price":
        return deed
    return "price", deed[1], amount_at(deed[2], held(carts, deed[1]), used[deed[1]])


def with_small_amounts(used, deeds):
    """Prices and deeds with the smallest amounts in the same order, where used lists the amounts of each item."""
    ranks = {item: in_order(used[item]) for item in used}
    prices = tuple([(item, ranks[item].index(used[item][0]) + 1) for item in used])
    small = [(*deed[:2], ranks[deed[1]].index(deed[2]) + 1) if deed[0] == "price" else deed for deed in deeds]
    return prices, small


def told(books, plan):
    """The tuple (prices, deeds) of a plan that was made for these books."""
    used = {item: [CEILING // 2] for item in items_of(plan)}
    carts = [opened([(item, used[item][0]) for item in used]) for _ in books]
    deeds = []
    for planned in plan:
        deed = priced(planned, carts, used)
        if deed[0] == "price":
            used[deed[1]].append(deed[2])
        carts = [step(book, cart, deed)[2] for book, cart in zip(books, carts)]
        deeds.append(deed)
    return with_small_amounts(used, deeds)
