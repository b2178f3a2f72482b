"""A cart at a shop, and what one deed makes of it. Lines and carts are never changed; a deed makes new ones."""

from lastshown.rules import carried_out

PAID = ("pay", True)
FAILED = ("pay", False)


class Line:
    """A line: the price that it keeps, and the last and the highest price that were shown of it.

    Nothing was shown of it yet while shown is None; highest is 0 then, which no price is below.
    """

    def __init__(self, item, number, kept, shown=None, highest=0):
        self.item = item
        self.number = number
        self.kept = kept
        self.shown = shown
        self.highest = highest


class Cart:
    """The shop's prices, the lines, and whether the person's last deed was a payment that failed."""

    def __init__(self, prices, rows, failed):
        self.prices = prices
        self.rows = rows
        self.failed = failed


def opened(prices):
    """A cart without lines, at these prices."""
    return Cart(dict(prices), [], False)


def behind(rule, price, line):
    """The line behind a rule, at the shop's price of its item, and how often the person was asked."""
    kept, shown, highest, asks = carried_out(rule, price, line.kept, line.shown)
    return Line(line.item, line.number, kept, shown, max(line.highest, highest)), asks


def wrongs(line):
    """The kinds of faults of a line that is paid as it is."""
    if line.shown is None:
        return ["unshown"]
    if line.kept == line.shown:
        return []
    if line.kept > line.highest:
        return ["other", "dearer"]
    return ["other"]


def has_line(cart, item):
    return any([line.item == item for line in cart.rows])


def numbered(line, number):
    return Line(line.item, number, line.kept, line.shown, line.highest)


def put(cart, item, number):
    """The lines with so many more of an item, ahead of the rule."""
    if not has_line(cart, item):
        return [*cart.rows, Line(item, number, cart.prices[item])]
    return [numbered(line, line.number + number) if line.item == item else line for line in cart.rows]


def altered(cart, item, number):
    """The lines with another number of an item, ahead of the rule; none of it if the number is 0."""
    if number == 0:
        return [line for line in cart.rows if line.item != item]
    return [numbered(line, number) if line.item == item else line for line in cart.rows]


def door_of(cart, deed):
    """The door whose rule a deed of the person carries out."""
    if deed[0] == "pay" and cart.failed:
        return "again"
    return deed[0]


def rows_ahead(cart, deed):
    """The lines ahead of the rule of a deed of the person."""
    if deed[0] == "put":
        return put(cart, deed[1], deed[2])
    if deed[0] == "alter":
        return altered(cart, deed[1], deed[2])
    return cart.rows


def is_ruled(deed, line):
    """Whether a deed of the person carries out its rule for this line."""
    return deed[0] not in ("put", "alter") or deed[1] == line.item


def ruled(book, cart, deed):
    """The lines behind the rule of a deed of the person, and the items about which the person was asked."""
    rule = book.rule(door_of(cart, deed))
    rows = []
    asked = []
    for line in rows_ahead(cart, deed):
        if is_ruled(deed, line):
            other, asks = behind(rule, cart.prices[line.item], line)
            rows.append(other)
            asked.extend([line.item] * asks)
        else:
            rows.append(line)
    return rows, asked


def step(book, cart, deed):
    """Play a deed that can be played: the lines behind its rule, the items asked about, the cart from then on."""
    if deed[0] == "price":
        return cart.rows, [], Cart({**cart.prices, deed[1]: deed[2]}, cart.rows, cart.failed)
    rows, asked = ruled(book, cart, deed)
    left = [] if deed == PAID else rows
    return rows, asked, Cart(cart.prices, left, deed == FAILED)
