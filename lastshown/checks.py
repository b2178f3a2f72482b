"""What counts as an item, an amount, prices and a deed."""

HIGHEST = 1_000_000_000_000
MOST_LETTERS = 8
MOST_NUMBER = 1000
MOST_ITEMS = 6


def is_whole(value, low, high):
    """Whether it is an integer from low to high; True and False are none."""
    return isinstance(value, int) and not isinstance(value, bool) and low <= value <= high


def is_item(value):
    if not isinstance(value, str) or len(value) > MOST_LETTERS:
        return False
    return value.isascii() and value.isalpha() and value.islower()


def is_amount(value):
    return is_whole(value, 0, HIGHEST)


def is_pair(value):
    """Whether it is a tuple (item, amount)."""
    return isinstance(value, tuple) and len(value) == 2 and is_item(value[0]) and is_amount(value[1])


def are_prices(value):
    if not isinstance(value, tuple) or not 1 <= len(value) <= MOST_ITEMS:
        return False
    if not all([is_pair(part) for part in value]):
        return False
    return len({part[0] for part in value}) == len(value)


def is_deed(value):
    if not isinstance(value, tuple) or len(value) == 0 or not isinstance(value[0], str):
        return False
    kind, *rest = value
    if kind in ("look", "back"):
        return len(rest) == 0
    if kind == "pay":
        return len(rest) == 1 and isinstance(rest[0], bool)
    if len(rest) != 2 or not is_item(rest[0]):
        return False
    return is_worth(kind, rest[1])


def is_worth(kind, value):
    """Whether a deed of this kind can have this value behind its item."""
    if kind == "price":
        return is_amount(value)
    if kind == "put":
        return is_whole(value, 1, MOST_NUMBER)
    return kind == "alter" and is_whole(value, 0, MOST_NUMBER)
