"""Values of many kinds, for arguments that may be any value: no doors, no rules, no prices, no deeds."""


class Contrary:
    """Equal to everything, and without a hash."""

    __hash__ = None

    def __eq__(self, other):
        return True


class Refusing:
    """Cannot be compared."""

    __hash__ = None

    def __eq__(self, other):
        raise RuntimeError("compared")


STRANGE = (
    None, True, False, 0, 1, -1, 10 ** 12 + 1, 1.0, float("nan"), 1j, "", "x", "Put", "put ", " put", "take", b"put",
    [], ["put"], {}, {"put": 1}, set(), frozenset(["put"]), (1,), ("put", "put"), (None,), ([],), (("put",),),
    range(2), len, int, object(), Contrary(), Refusing(), (Contrary(),), (Refusing(),),
)

MOST = 10 ** 12

# What is no prices, and what is no deed.
BAD_PRICES = (
    *STRANGE, [], (), [("tea", 4)], (("tea", 4), ["milk", 7]), (["tea", 4],), (("tea",),), (("tea", 4, 4),),
    ("tea", 4), (("tea", 4), ("tea", 4)), (("tea", 4), ("milk", 7), ("tea", 5)), {"tea": 4}, ("ab",),
    tuple((item, 1) for item in "abcdefg"), (("tea", -1),), (("tea", MOST + 1),), (("tea", True),),
    (("tea", False),), (("tea", 4.0),), (("tea", "4"),), (("tea", None),), (("", 4),), (("Tea", 4),),
    (("te a", 4),), (("tea1", 4),), (("tea\n", 4),), (("abcdefghi", 4),), (("t\u00e9", 4),), (("\u00df", 4),),
    ((b"tea", 4),), ((None, 4),), (([], 4),), ((4, "tea"),), (("tea", 4), None),
)

BAD_DEEDS = (
    *STRANGE, (), "look", "pay", ["look"], ["put", "tea", 1], ("look", None), ("look", "tea"), ("back", 1),
    ("back", "tea", 1), ("Look",), ("again",), ("ask",), ("fail",), ("pay",), ("pay", 1), ("pay", 0), ("pay", None),
    ("pay", "True"), ("pay", True, True), ("pay", "tea", True), ("put",), ("put", "tea"), ("put", "tea", 0),
    ("put", "tea", -1), ("put", "tea", 1001), ("put", "tea", True), ("put", "tea", 1.0), ("put", "tea", "1"),
    ("put", "tea", 1, 1), ("put", "TEA", 1), ("put", "", 1), ("put", "abcdefghi", 1), ("put", None, 1),
    ("put", ["tea"], 1), ("put", 1, "tea"), ("alter", "tea"), ("alter", "tea", -1), ("alter", "tea", 1001),
    ("alter", "tea", False), ("alter", "tea", True), ("alter", "tea", None), ("alter", "t ea", 1),
    ("price", "tea"), ("price", "tea", -1), ("price", "tea", MOST + 1), ("price", "tea", True),
    ("price", "tea", False), ("price", "tea", 4.0), ("price", "tea", None), ("price", "t\u00e9", 1),
    ("price", "tea", 4, 4), ("price", 4), ("buy", "tea", 1), (None, "tea", 1), (["put"], "tea", 1), (b"look",),
    (True,), ("put", "tea", [1]), ("put", ("tea",), 1), (("look",),), {"look": 1},
)
