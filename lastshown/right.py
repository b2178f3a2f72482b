"""Whether a book is right: no line is ever paid at a price that is not the one last shown of it.

A line sees nothing of the other lines, and its rules only compare prices. So it is enough to follow one line through
all orders that the shop's price, the price that it keeps and the one last shown can have.

Other items could matter in one way only: a deed at one of them, behind a payment that failed, makes the next payment
one of the door "pay" again. No shortest history needs it. Behind a payment that failed the line keeps the price last
shown, for otherwise the same payment, done, would have been a fault. To stand so, whatever the shop's price is, it
takes no more deeds to put the item, fail to pay and look, all at one price, and then to change the price.
"""

from lastshown.books import DOORS, MOST_ACTIONS
from lastshown.carts import FAILED, PAID, Line, carried_out, wrongs
from lastshown.errors import NoRule, NotRight
from lastshown.orders import in_order, places, ranks
from lastshown.checks import HIGHEST

ITEM = "a"
DEEDS = (("put", "a", 1), ("look",), ("alter", "a", 1), ("back",))


class Standing:
    """Where a line stands behind some deeds: the shop's price, the line, and whether the last payment failed."""

    def __init__(self, price, line, failed, deeds):
        self.price = price
        self.line = line
        self.failed = failed
        self.deeds = deeds


def key(standing):
    """The same for all standings from which the same can go wrong."""
    line = standing.line
    return ranks((standing.price, line.kept, line.shown)), standing.failed


def begun(book):
    """The standing behind the first deed, which puts the item."""
    # Each new price halves a distance at worst: from here there is room for 38 of them, and a shortest way has fewer,
    # for it meets none of the at most 32 keys twice.
    price = HIGHEST // 2
    line, _ = carried_out(book.rule("put"), price, Line(ITEM, 1, price))
    return Standing(price, line, False, [DEEDS[0]])


def pay_rule(book, standing):
    return book.rule("again" if standing.failed else "pay")


def pays_wrong(book, standing):
    """Whether a payment that is done now is a fault."""
    line, _ = carried_out(pay_rule(book, standing), standing.price, standing.line)
    return wrongs(line) != []


def moved(standing, rule, deed):
    """The standing behind a deed of the person that carries out this rule."""
    line, _ = carried_out(rule, standing.price, standing.line)
    return Standing(standing.price, line, deed == FAILED, [*standing.deeds, deed])


def repriced(standing, price):
    deeds = [*standing.deeds, ("price", ITEM, price)]
    return Standing(price, standing.line, standing.failed, deeds)


def followers(book, standing):
    """The standings behind one more deed, where the line is neither removed nor paid."""
    line = standing.line
    found = [repriced(standing, price) for price in places((line.kept, line.shown))]
    found.extend([moved(standing, book.rule(deed[0]), deed) for deed in DEEDS])
    found.append(moved(standing, pay_rule(book, standing), FAILED))
    return found


def with_small_amounts(start, deeds):
    """The history with this first price and these deeds, told with the smallest amounts in the same order."""
    amounts = in_order([start] + [deed[2] for deed in deeds if deed[0] == "price"])
    small = [("price", ITEM, amounts.index(deed[2]) + 1) if deed[0] == "price" else deed for deed in deeds]
    return ((ITEM, amounts.index(start) + 1),), small


def first_fault(book):
    """None if the book is right, otherwise prices and as few deeds as can have a fault."""
    first = begun(book)
    seen = set()
    seen.add(key(first))
    level = [first]
    while level:
        behind = []
        for standing in level:
            if pays_wrong(book, standing):
                return with_small_amounts(first.price, [*standing.deeds, PAID])
            for follower in followers(book, standing):
                place = key(follower)
                if place not in seen:
                    seen.add(place)
                    behind.append(follower)
        level = behind
    return None


def is_right(book):
    """Whether no history has a fault."""
    return first_fault(book) is None


def without(book, door, index):
    """The book without one action."""
    rule = book.rule(door)
    return book.with_rule(door, rule[:index] + rule[index + 1:])


def needless(book):
    """The actions (door, index) without which, each alone, the book is right."""
    if not is_right(book):
        raise NotRight("the book is not right")
    actions = [(door, index) for door in DOORS for index in range(len(book.rule(door)))]
    return [(door, index) for door, index in actions if is_right(without(book, door, index))]


def few_doors():
    """All tuples of at most two distinct doors in order, the shorter ones first."""
    pairs = [(one, two) for at, one in enumerate(DOORS) for two in DOORS[at + 1:]]
    return [()] + [(door,) for door in DOORS] + pairs


def fewest_asks(book):
    """The fewest doors at whose end an ask makes the book right."""
    for door in DOORS:
        if len(book.rule(door)) == MOST_ACTIONS:
            raise NoRule(door)
    # This ends: an ask behind each payment, at "pay" and "again", makes any book right.
    choices = few_doors()
    at = 0
    while not is_right(book.asking(choices[at])):
        at += 1
    return choices[at]
