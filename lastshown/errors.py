"""The errors of the package."""


class ShownError(ValueError):
    """The base of all errors of the package."""


class NoPrices(ShownError):
    """The value is not prices."""


class NoDoors(ShownError):
    """The value is not a tuple of distinct doors."""


class NotRight(ShownError):
    """The book is not right."""


class NothingToUndo(ShownError):
    """No call is left that can be taken back."""


class NoRule(ShownError):
    """The value for this door is not a rule, or its rule has no room for another action."""

    def __init__(self, door):
        self.door = door


class NoDoor(ShownError):
    """The value is not a door."""

    def __init__(self, door):
        self.door = door


class NoDeed(ShownError):
    """What stands at this index is not a deed."""

    def __init__(self, index):
        self.index = index


class NoItem(ShownError):
    """The shop does not have the item of the deed at this index."""

    def __init__(self, index):
        self.index = index


class NoLine(ShownError):
    """No line has the item of the deed at this index."""

    def __init__(self, index):
        self.index = index


class Missing(ShownError):
    """The shop does not have this item."""

    def __init__(self, item):
        self.item = item


class NoText(ShownError):
    """The line of this index is wrong."""

    def __init__(self, line):
        self.line = line
