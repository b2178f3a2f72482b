"""Searches that try every history, step by step, for a fault, a mixture or a difference between two books.

They take amounts as a dict: the amounts that each item can have. They know nothing of what the package leaves out.
"""

from itertools import product

from tests.oracle import DOORS


def rules_of(book):
    return dict(zip(DOORS, book.rules()))


def carried(rule, price, kept, shown):
    """What a line keeps, what was last shown of it and how often the person was asked, behind a rule."""
    asks = 0
    for action in rule:
        if action == "take" or action == "least" and price < kept:
            kept = price
        if action == "last" and shown is not None:
            kept = shown
        if action == "ask" and shown != kept:
            asks += 1
        if action in ("show", "ask"):
            shown = kept
    return kept, shown, asks


def all_deeds(amounts):
    deeds = [("look",), ("back",), ("pay", False), ("pay", True)]
    for item, some in amounts.items():
        deeds += [("price", item, amount) for amount in some if len(some) > 1]
        deeds += [("put", item, 1), ("alter", item, 1), ("alter", item, 0)]
    return deeds


def starts(amounts):
    """All states ahead of the first deed: prices, lines (kept, shown), whether the last payment failed."""
    for choice in product(*amounts.values()):
        yield tuple(zip(amounts, choice)), (), False


def behind(rules, state, deed):
    """The state behind a deed and what is told of it; None if it cannot be played."""
    prices, lines, failed = state
    prices, lines = dict(prices), dict(lines)
    if deed[0] == "price":
        prices[deed[1]] = deed[2]
        return (tuple(prices.items()), state[1], failed), None
    touched = list(lines)
    if deed[0] in ("put", "alter"):
        touched = [deed[1]]
        if deed[0] == "put":
            lines.setdefault(deed[1], (prices[deed[1]], None))
        if deed[1] not in lines:
            return None
        if deed[2] == 0:
            touched = []
            del lines[deed[1]]
    asked = []
    for item in touched:
        kept, shown, asks = carried(rules["again" if deed[0] == "pay" and failed else deed[0]], prices[item], *lines[item])
        lines[item] = (kept, shown)
        asked += [item] * asks
    told = [(item, shown) for item, (_, shown) in lines.items()], asked, None
    if deed == ("pay", True):
        told = told[0], asked, [(item, kept) for item, (kept, _) in lines.items()]
        lines = {}
    return (state[0], tuple(lines.items()), deed == ("pay", False)), told


def fewest_levels(first, follow, most):
    """How few deeds lead to an end, at most so many; None if none do. follow lists what can follow; an end is None."""
    level = list(first)
    seen = set(level)
    for count in range(1, most + 1):
        further = []
        for state in level:
            for found in follow(state):
                if found is None:
                    return count
                if found not in seen:
                    seen.add(found)
                    further.append(found)
        level = further
    return None


def fewest_to_fault(book, amounts):
    """How few deeds have a fault; None if no number of them has."""
    rules = rules_of(book)
    deeds = all_deeds(amounts)

    def follow(state):
        for deed in deeds:
            found = behind(rules, state, deed)
            if found is not None:
                # All that is paid was shown last.
                wrong = found[1] is not None and found[1][2] not in (None, found[1][0])
                yield None if wrong else found[0]

    return fewest_levels(starts(amounts), follow, 99)


def fewest_to_difference(book, other, amounts, most=99, barred=()):
    """How few deeds, none of those barred, tell two books apart; None if no number of them, at most so many, does."""
    one, two = rules_of(book), rules_of(other)
    deeds = [deed for deed in all_deeds(amounts) if deed not in barred]

    def follow(pair):
        for deed in deeds:
            found, others = behind(one, pair[0], deed), behind(two, pair[1], deed)
            if found is not None:
                yield (found[0], others[0]) if found[1] == others[1] else None

    return fewest_levels([(state, state) for state in starts(amounts)], follow, most)


def is_mixture(told, moments):
    """Whether what is shown has no common moment."""
    shown = [(item, price) for item, price in told[0] if price is not None]
    return not any(all(dict(moment)[item] == price for item, price in shown) for moment in moments)


def fewest_to_mixture(book, amounts, most=99, barred=()):
    """How few deeds, none of those barred, have a mixture; None if no number of them, at most so many, has."""
    rules = rules_of(book)
    deeds = [deed for deed in all_deeds(amounts) if deed not in barred]

    def follow(pair):
        state, moments = pair
        for deed in deeds:
            found = behind(rules, state, deed)
            if found is None:
                continue
            if found[1] is None:
                yield found[0], moments | {found[0][0]}
            else:
                yield None if is_mixture(found[1], moments) else (found[0], moments)

    return fewest_levels([(state, frozenset([state[0]])) for state in starts(amounts)], follow, most)
