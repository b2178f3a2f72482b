"""Books and histories as texts."""

from lastshown.books import ACTIONS, DOORS, MOST_ACTIONS, Book
from lastshown.checks import HIGHEST, are_prices, is_deed
from lastshown.errors import NoText
from lastshown.plays import check_deeds, check_prices

# The deeds of which the line is one word.
WORDS = {"look": ("look",), "back": ("back",), "pay": ("pay", True), "fail": ("pay", False)}


def lines_of(text):
    """The lines of a text; NoText if it is no string."""
    if not isinstance(text, str):
        raise NoText(0)
    return text.split("\n")


def book_text(book):
    """The text of a book."""
    return "\n".join([" ".join([door + ":", *book.rule(door)]) for door in DOORS])


def is_rule_line(line, door):
    """Whether a line writes a rule of this door."""
    first, *actions = line.split(" ")
    return first == door + ":" and len(actions) <= MOST_ACTIONS and all([action in ACTIONS for action in actions])


def read_book(text):
    """The book of a text."""
    lines = lines_of(text)
    for index, line in enumerate(lines):
        if index == len(DOORS) or not is_rule_line(line, DOORS[index]):
            raise NoText(index)
    if len(lines) < len(DOORS):
        raise NoText(len(lines))
    rules = [tuple(line.split(" ")[1:]) for line in lines]
    return Book(*rules)


def deed_line(deed):
    """The line that writes a deed."""
    for word, short in WORDS.items():
        if deed == short:
            return word
    kind, item, number = deed
    return f"{kind} {item} {number}"


def history_text(prices, deeds):
    """The text of a history."""
    check_prices(prices)
    check_deeds(deeds, 0)
    first = " ".join(["prices", *[f"{item}={amount}" for item, amount in prices]])
    return "\n".join([first, *[deed_line(deed) for deed in deeds]])


def number_of(word):
    """The number that a word writes in decimal digits without leading zeros, None if it writes none or a longer one."""
    if not (word.isascii() and word.isdigit()) or len(word) > len(str(HIGHEST)):
        return None
    number = int(word)
    return number if word == str(number) else None


def pair_of(word):
    """The tuple (item, amount) that a word may write; the amount is None if it writes none."""
    item, _, amount = word.partition("=")
    return item, number_of(amount)


def read_prices(line):
    """The prices that a line writes."""
    first, *words = line.split(" ")
    prices = tuple([pair_of(word) for word in words])
    if first != "prices" or not are_prices(prices):
        raise NoText(0)
    return prices


def read_deed(line, index):
    """The deed that the line of this index writes."""
    if line in WORDS:
        return WORDS[line]
    words = line.split(" ")
    if len(words) == 3:
        deed = (words[0], words[1], number_of(words[2]))
        if is_deed(deed):
            return deed
    raise NoText(index)


def read_history(text):
    """The tuple (prices, deeds) of a text."""
    first, *rest = lines_of(text)
    prices = read_prices(first)
    return prices, [read_deed(line, index) for index, line in enumerate(rest, start=1)]
