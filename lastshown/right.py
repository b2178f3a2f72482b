"""Whether a book is right: no line is ever paid at a price that is not the one last shown of it.

A line sees nothing of the other lines, and its rules only compare prices. So it is enough to follow one line through
all orders that the shop's price, the price that it keeps and the one last shown can have.

Other items could matter in one way only: a deed at one of them, behind a payment that failed, makes the next payment
one of the door "pay" again. No shortest history needs it. Behind a payment that failed the line keeps the price last
shown, for otherwise the same payment, done, would have been a fault. To stand so, whatever the shop's price is, it
takes no more deeds to put the item, fail to pay and look, all at one price, and then to change the price.
"""

from lastshown.books import DOORS, MOST_ACTIONS
from lastshown.carts import FAILED, PAID
from lastshown.errors import NoRule, NotRight
from lastshown.histories import DEEDS, ITEM, PUT, told
from lastshown.orders import HOLDINGS, settled, spots
from lastshown.rules import carried_out
from lastshown.searches import END, fewest

# What a line holds, by its place in HOLDINGS.
UNSHOWN = 0
AS_SHOWN = 1
BELOW = 2
ABOVE = 3

UNBEGUN = "unbegun"
# Where a line begins, ahead of the rule.
BEGUN = (2, 2, None, False)


def holding(kept, shown):
    """What a line holds, whatever the amounts are."""
    if shown is None:
        return UNSHOWN
    if kept == shown:
        return AS_SHOWN
    return BELOW if kept < shown else ABOVE


class Effect:
    """What a rule makes of what a line holds, worked out when it is first asked for."""

    def __init__(self, rule):
        self.actions = rule
        self.known = {}

    def behind(self, ahead):
        """All that a line can hold behind the rule, for any price of the shop, by what it holds ahead of it."""
        if ahead not in self.known:
            held = HOLDINGS[ahead]
            found = []
            for price in spots(held):
                kept, shown, _, _ = carried_out(self.actions, price, *held)
                there = holding(kept, shown)
                if there not in found:
                    found.append(there)
            self.known[ahead] = found
        return self.known[ahead]


def first_holding(rule):
    """What a line holds behind the put with which it begins: it keeps the shop's price."""
    kept, shown, _, _ = carried_out(rule, 2, 2, None)
    return holding(kept, shown)


def are_right(effects):
    """Whether no history has a fault, by the effects of the six rules in the order of the doors.

    The shop's price can change ahead of each deed, so that what the line holds is all that matters. If no payment at
    the door "pay" can be a fault, the line keeps the price last shown behind each that failed.
    """
    *others, pay, again = effects
    reached = [first_holding(effects[0].actions)]
    if AS_SHOWN not in reached:
        reached.append(AS_SHOWN)
    at = 0
    while at < len(reached):
        here = reached[at]
        if pay.behind(here) != [AS_SHOWN]:
            return False
        for effect in others:
            reached.extend([there for there in effect.behind(here) if there not in reached])
        at += 1
    return again.behind(AS_SHOWN) == [AS_SHOWN]


def is_right(book):
    """Whether no history has a fault."""
    return are_right([Effect(rule) for rule in book.rules()])


def pay_door(standing):
    """The door of a payment at a standing."""
    return "again" if standing[-1] else "pay"


class FaultSearch:
    """The search for a fault of a book. A standing is (price, kept, shown, whether the last payment failed)."""

    def __init__(self, book):
        self.by_door = dict(zip(DOORS, book.rules()))

    def held(self, door, standing):
        """The price kept and the one last shown behind the rule of a door."""
        price, kept, shown, _ = standing
        kept, shown, _, _ = carried_out(self.by_door[door], price, kept, shown)
        return kept, shown

    def behind(self, door, standing, failed):
        """The standing behind the rule of a door."""
        spot, held = settled(standing[0], self.held(door, standing))
        return (spot, *held, failed)

    def left(self, standing):
        """Only the payment is needed if it is a fault now."""
        kept, shown = self.held(pay_door(standing), standing)
        return 2 if kept == shown else 1

    def moves(self, standing, last):
        """The deeds that can follow, each with the standing behind it."""
        if standing == UNBEGUN:
            return [(PUT, self.behind("put", BEGUN, False))]
        if self.left(standing) == 1:
            return [(PAID, END)]
        found = [(deed, self.behind(deed[0], standing, False)) for deed in DEEDS]
        found.append((FAILED, self.behind(pay_door(standing), standing, True)))
        # A second new price at once would only do what another first one does.
        if last[0] != "price":
            _, *held = standing
            found.extend([(("price", ITEM, spot), (spot, *held)) for spot in spots(standing[1:3])])
        return found


def first_fault(book):
    """None if the book is right, otherwise prices and as few deeds as can have a fault."""
    if is_right(book):
        return None
    return told([book], fewest(FaultSearch(book), UNBEGUN))


def needless(book):
    """The actions (door, index) without which, each alone, the book is right."""
    effects = [Effect(rule) for rule in book.rules()]
    if not are_right(effects):
        raise NotRight("the book is not right")
    found = []
    for at, door in enumerate(DOORS):
        rule = book.rule(door)
        for index in range(len(rule)):
            less = Effect(rule[:index] + rule[index + 1:])
            if are_right([*effects[:at], less, *effects[at + 1:]]):
                found.append((door, index))
    return found


def few_doors():
    """All tuples of at most two distinct doors in order, the shorter ones first."""
    pairs = [(one, two) for at, one in enumerate(DOORS) for two in DOORS[at + 1:]]
    return [()] + [(door,) for door in DOORS] + pairs


def fewest_asks(book):
    """The fewest doors at whose end an ask makes the book right."""
    for door in DOORS:
        if len(book.rule(door)) == MOST_ACTIONS:
            raise NoRule(door)
    # This ends: an ask behind each payment, at "pay" and "again", makes any book right.
    choices = few_doors()
    at = 0
    while not is_right(book.asking(choices[at])):
        at += 1
    return choices[at]
