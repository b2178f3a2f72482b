"""Whether two books are the same to every person: play tells the same for all prices and all histories.

What is told of a line depends on no other line, and until the first difference the two books have shown the same
prices. So it is enough to follow one line through all orders of the shop's price, the prices that it keeps by the one
book and by the other, and the price last shown. A line that is removed or paid is as if it had never been put.

Other items matter in one way only: a deed at one of them, behind a payment that failed, makes the next payment one of
the door "pay" again, and leaves the line as it is.
"""

from lastshown.books import DOORS
from lastshown.carts import FAILED, PAID
from lastshown.histories import DEEDS, ITEM, PUT, told
from lastshown.orders import settled, spots
from lastshown.rules import carried_out
from lastshown.searches import END, fewest

PUT_ANOTHER = ("put", "b", 1)

UNBEGUN = "unbegun"
# Where a line begins, ahead of the rules.
BEGUN = (2, 2, 2, None, False)


class DifferenceSearch:
    """The search for a difference between two books.

    A standing is (price, kept by the one book, kept by the other, shown, whether the last payment failed).
    """

    def __init__(self, book, other):
        self.by_door = {door: (book.rule(door), other.rule(door)) for door in DOORS}

    def left(self, standing):
        """Nothing is told of a price, so that at least a deed of the person is needed."""
        return 1

    def behind(self, door, standing, failed):
        """The standing behind the rules of a door; END if what is shown or asked differs."""
        price, one, two, shown, _ = standing
        rule_one, rule_two = self.by_door[door]
        one, shown_one, _, asks_one = carried_out(rule_one, price, one, shown)
        two, shown_two, _, asks_two = carried_out(rule_two, price, two, shown)
        if shown_one != shown_two or asks_one != asks_two:
            return END
        spot, held = settled(price, (one, two, shown_one))
        return (spot, *held, failed)

    def payment(self, standing):
        """The payment that can follow: one that is done if it tells a difference, otherwise one that fails."""
        behind = self.behind("again" if standing[-1] else "pay", standing, True)
        if behind == END or behind[1] != behind[2]:
            return PAID, END
        return FAILED, behind

    def moves(self, standing, last):
        """The deeds that can follow, each with the standing behind it."""
        if standing == UNBEGUN:
            return [(PUT, self.behind("put", BEGUN, False))]
        found = [self.payment(standing)]
        found.extend([(deed, self.behind(deed[0], standing, False)) for deed in DEEDS])
        *prices, failed = standing
        if failed:
            found.append((PUT_ANOTHER, (*prices, False)))
        # A second new price at once would only do what another first one does.
        if last[0] != "price":
            found.extend([(("price", ITEM, spot), (spot, *standing[1:])) for spot in spots(standing[1:4])])
        return found


def told_apart(book, other):
    """None if the books are the same to every person, otherwise prices and as few deeds as tell them apart."""
    if book == other:
        return None
    plan = fewest(DifferenceSearch(book, other), UNBEGUN)
    return None if plan is None else told([book, other], plan)
