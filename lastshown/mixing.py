"""Whether a book is plain: the prices last shown of the lines always have a common moment.

A new price that an item had before helps no mixture: rules only compare the prices of one item, and if it is replaced
by one a little higher or lower, the same is kept and shown, at fewer common moments. So each price stands for one span
of moments, from its deed "price" to the next one of its item. Spans of which each two have a common moment have one in
common all together. So a mixture is one of two lines: an old price is shown of the one, and of the other a new one
whose span began when that of the old one had ended. The deed "price" with which it began is called the turn.

A line that is removed or paid ahead of the mixture is not needed for it. Other items matter in one way only: a deed at
one of them, behind a payment that failed, makes the next payment one of the door "pay" again, and leaves the two lines
as they are.
"""

from lastshown.books import DOORS
from lastshown.carts import FAILED
from lastshown.histories import told
from lastshown.orders import HOLDINGS, new_spots, settled, spots
from lastshown.rules import carried_out
from lastshown.searches import END, fewest

# The items of the line of the old price and of the line of the new one.
OLD = "a"
NEW = "b"
DEEDS = (
    ("put", "a", 1), ("put", "b", 1), ("alter", "a", 1), ("alter", "b", 1), ("look",), ("back",), ("pay", False),
)
PUT_ANOTHER = ("put", "c", 1)

# No lines, no payment that failed, and no turn.
EMPTY = (None, None, False, False)


def shows(rule):
    return "show" in rule or "ask" in rule


def ends(rule):
    """What a rule makes of a line in all orders of its prices, as tuples (price, ahead, behind).

    Ahead of the rule and behind it stand the price kept and the one last shown.
    """
    standings = [(price, held) for held in HOLDINGS for price in spots(held)]
    return [(price, held, carried_out(rule, price, *held)[:2]) for price, held in standings]


def shows_present(rule):
    """Whether a rule shows nothing, or always the shop's price of the moment."""
    return not shows(rule) or all([shown == price for price, _, (_, shown) in ends(rule)])


def shows_what_pay_showed(pay, again):
    """Whether something is shown at "pay", and "again" leaves what is shown as it is."""
    return shows(pay) and all([shown == ahead[1] for _, ahead, (_, shown) in ends(again) if ahead[1] is not None])


def shows_what_pay_took(pay, again):
    """Whether "pay" keeps the shop's price, and "again" shows the price kept and keeps on, or takes the shop's anew."""
    rows = ends(again)
    takes = all([kept == price for price, _, (kept, _) in ends(pay)])
    shows_kept = all([shown == ahead[0] for _, ahead, (_, shown) in rows])
    keeps = all([kept == ahead[0] for _, ahead, (kept, _) in rows])
    renews = all([kept == price for price, _, (kept, _) in rows])
    return takes and shows_kept and (keeps or renews)


def shows_at_once(book):
    """Whether prices are only shown of all lines together, and then all those of one moment.

    It is the moment of the deed itself, or for the door "again" that of an earlier payment of the same row of payments
    that failed. Such a book is plain. The search would tell so, too, but it takes long where there is nothing to find.
    """
    put, look, alter, back, pay, again = book.rules()
    if shows(put) or shows(alter) or not all([shows_present(rule) for rule in (look, back, pay)]):
        return False
    return shows_present(again) or shows_what_pay_showed(pay, again) or shows_what_pay_took(pay, again)


def begun(counts):
    """A line with which its item begins, ahead of the rule."""
    return 2, 2, None, counts, False


def behind(rule, line, counts):
    """The line behind a rule, where counts tells whether the shop's price of the moment counts."""
    price, kept, shown, kept_counts, shown_counts = line
    marks = {shown: shown_counts, kept: kept_counts, price: counts}
    kept, shown, _, _ = carried_out(rule, price, kept, shown)
    spot, held = settled(price, (kept, shown))
    return (spot, *held, marks[kept], marks[shown])


def repriced(line):
    """A tuple (spot, line) for each new price of an item."""
    if line is None:
        return [(1, None)]
    return [(spot, (spot, *line[1:])) for spot in new_spots(line[1:3])]


def at_turn(line):
    """The line of the old price at the turn: what is not the shop's price of the moment has ended."""
    price, kept, shown, _, _ = line
    return price, kept, shown, kept != price, shown is not None and shown != price


def is_lost(standing):
    """Whether no old price is held any more."""
    return standing != END and standing[3] and not (standing[0][3] or standing[0][4])


def can_follow(deed, standing):
    """Whether a deed of the person can follow and may matter."""
    old, new, _, _ = standing
    if deed[0] == "put":
        return True
    if deed[0] == "alter":
        return (old if deed[1] == OLD else new) is not None
    return old is not None or new is not None


class MixtureSearch:
    """The search for a mixture of a book.

    A standing is (line of the old price, line of the new one, whether the last payment failed, whether the turn was).
    A line is (price, kept, shown, whether the one kept counts, whether the one shown counts), or None ahead of its
    put. Of the old line those prices count that had ended at the turn, of the new one those that began then or later.
    """

    def __init__(self, book):
        self.by_door = dict(zip(DOORS, book.rules()))
        self.known = {}

    def behind(self, door, line, counts):
        """The line behind the rule of a door, where counts tells whether the shop's price of the moment counts."""
        key = (door, line, counts)
        if key not in self.known:
            self.known[key] = behind(self.by_door[door], begun(counts) if line is None else line, counts)
        return self.known[key]

    def met(self, deed, standing):
        """The standing behind a deed of the person."""
        old, new, failed, turned = standing
        door = "again" if failed and deed == FAILED else deed[0]
        if deed[1:2] != (NEW,) and (old is not None or door == "put"):
            old = self.behind(door, old, False)
        if deed[1:2] != (OLD,) and (new is not None or door == "put"):
            new = self.behind(door, new, turned)
        if turned and new is not None and old[4] and new[4]:
            return END
        return old, new, deed == FAILED, turned

    def new_prices(self, standing, last):
        """The deeds "price" that can follow: between two deeds of the person one for each line is enough."""
        old, new, failed, turned = standing
        found = []
        if old is not None and last[0] != "price":
            found.extend([(("price", OLD, spot), (line, new, failed, turned)) for spot, line in repriced(old)])
        if last[:2] != ("price", NEW):
            if new is not None:
                found.extend([(("price", NEW, spot), (old, line, failed, turned)) for spot, line in repriced(new)])
            if old is not None and not turned:
                past = at_turn(old)
                found.extend([(("price", NEW, spot), (past, line, failed, True)) for spot, line in repriced(new)])
        return found

    def moves(self, standing, last):
        """The deeds that can follow, each with the standing behind it."""
        found = [(deed, self.met(deed, standing)) for deed in DEEDS if can_follow(deed, standing)]
        if standing != EMPTY:
            found.extend(self.new_prices(standing, last))
        if standing[2]:
            found.append((PUT_ANOTHER, (*standing[:2], False, standing[3])))
        return [(deed, there) for deed, there in found if not is_lost(there)]

    def left(self, standing):
        """A put, a price behind it, the turn, and what shows the new price: the put of its line or a deed behind it."""
        old, new, _, turned = standing
        least = 2 if new is None and not shows(self.by_door["put"]) else 1
        if turned:
            return least
        if old is None:
            return least + 3
        price, kept, shown, _, _ = old
        return least + (2 if kept == price and shown in (None, price) else 1)


def first_mixture(book):
    """None if the book is plain, otherwise prices and as few deeds as can have a mixture."""
    if shows_at_once(book):
        return None
    plan = fewest(MixtureSearch(book), EMPTY)
    return None if plan is None else told([book], plan)


def is_plain(book):
    """Whether no history has a mixture."""
    return first_mixture(book) is None
