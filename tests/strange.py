"""Values of many kinds, for arguments that may be any value: no doors, no rules, no prices, no deeds."""


class Contrary:
    """Equal to everything, and without a hash."""

    __hash__ = None

    def __eq__(self, other):
        return True


class Refusing:
    """Cannot be compared."""

    __hash__ = None

    def __eq__(self, other):
        raise RuntimeError("compared")


STRANGE = (
    None, True, False, 0, 1, -1, 10 ** 12 + 1, 1.0, float("nan"), 1j, "", "x", "Put", "put ", " put", "take", b"put",
    [], ["put"], {}, {"put": 1}, set(), frozenset(["put"]), (1,), ("put", "put"), (None,), ([],), (("put",),),
    range(2), len, int, object(), Contrary(), Refusing(), (Contrary(),), (Refusing(),),
)
