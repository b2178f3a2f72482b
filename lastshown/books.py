"""Books of rules: a rule of few actions for each door."""

from lastshown.errors import NoDoor, NoDoors, NoRule

ACTIONS = ("take", "least", "last", "show", "ask")
DOORS = ("put", "look", "alter", "back", "pay", "again")
MOST_ACTIONS = 6


def is_action(value):
    return isinstance(value, str) and value in ACTIONS


def is_rule(value):
    return isinstance(value, tuple) and len(value) <= MOST_ACTIONS and all([is_action(part) for part in value])


def is_door(value):
    return isinstance(value, str) and value in DOORS


def are_distinct_doors(value):
    if not isinstance(value, tuple) or not all([is_door(part) for part in value]):
        return False
    return len(set(value)) == len(value)


class Book:
    """A rule for each door. A book is never changed."""

    def __init__(self, put=(), look=(), alter=(), back=(), pay=(), again=()):
        rules = (put, look, alter, back, pay, again)
        for door, rule in zip(DOORS, rules):
            if not is_rule(rule):
                raise NoRule(door)
        self._rules = rules

    def __eq__(self, other):
        return isinstance(other, Book) and self._rules == other._rules

    def rule(self, door):
        """The rule of a door."""
        if not is_door(door):
            raise NoDoor(door)
        return self._rules[DOORS.index(door)]

    def rules(self):
        """The six rules, in the order of the doors."""
        return self._rules

    def with_rule(self, door, rule):
        """The book with another rule at one door."""
        if not is_door(door):
            raise NoDoor(door)
        rules = [rule if name == door else old for name, old in zip(DOORS, self._rules)]
        return Book(*rules)

    def asking(self, doors):
        """The book with one more action "ask" at the end of the rules of these doors."""
        if not are_distinct_doors(doors):
            raise NoDoors("not a tuple of distinct doors")
        rules = [rule + ("ask",) if door in doors else rule for door, rule in zip(DOORS, self._rules)]
        return Book(*rules)
