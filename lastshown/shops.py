"""A live shop: one cart, deeds one by one, and each change can be taken back."""

from lastshown.carts import has_line, opened
from lastshown.errors import Missing, NothingToUndo
from lastshown.plays import check_deeds, check_prices, report, stages_from


def amount_paid(told):
    """What was paid in all, by the report of a deed."""
    if told is None or told[2] is None:
        return 0
    return sum([number * price for _, number, price in told[2]])


def asks_in(told):
    """How often the person was asked, by the report of a deed."""
    return 0 if told is None else len(told[1])


class Shop:
    """A shop with one cart.

    The cart and the list of asks are never changed, but replaced: so what stood ahead of a change is kept as it was.
    """

    def __init__(self, book, prices):
        check_prices(prices)
        self._book = book
        self._cart = opened(prices)
        # How often the person was asked, for each deed that is not taken back.
        self._asks = []
        self._sum = 0
        self._past = []

    def _remember(self):
        self._past.append((self._book, self._cart, self._asks, self._sum))

    def do(self, deed):
        """Play a deed, and return its report."""
        return self.do_all([deed])[0]

    def do_all(self, deeds):
        """Play a list of deeds, all or none, and return the list of their reports."""
        check_deeds(deeds, len(self))
        stages = stages_from(self._book, self._cart, deeds, len(self))
        reports = [report(deed, rows, asked) for deed, (rows, asked, _) in zip(deeds, stages)]
        self._remember()
        if stages:
            self._cart = stages[-1][2]
        self._asks = self._asks + [asks_in(told) for told in reports]
        self._sum = self._sum + sum([amount_paid(told) for told in reports])
        return reports

    def undo(self):
        """Take back the last change that is not taken back."""
        if not self._past:
            raise NothingToUndo("nothing is left to take back")
        self._book, self._cart, self._asks, self._sum = self._past.pop()

    def change(self, book):
        """Go on with another book; all else stays as it is."""
        self._remember()
        self._book = book

    def price(self, item):
        """The shop's price of an item."""
        if not isinstance(item, str) or item not in self._cart.prices:
            raise Missing(item)
        return self._cart.prices[item]

    def lines(self):
        """The lines, as tuples (item, number, kept, shown)."""
        return [(line.item, line.number, line.kept, line.shown) for line in self._cart.rows]

    def paid(self):
        """The sum of all that was paid."""
        return self._sum

    def __len__(self):
        return len(self._asks)

    def __contains__(self, item):
        return isinstance(item, str) and has_line(self._cart, item)

    @property
    def total(self):
        """What the lines cost at the prices that they keep."""
        return sum([line.number * line.kept for line in self._cart.rows])

    @property
    def asked(self):
        """How often the person was asked."""
        return sum(self._asks)

    @property
    def book(self):
        """The book with which the shop goes on."""
        return self._book

    @book.setter
    def book(self, value):
        self.change(value)
