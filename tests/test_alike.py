"""[17]: books that are the same to every person, and the shortest histories that tell two books apart."""

import random
import unittest
from itertools import product

from lastshown.alike import told_apart
from lastshown.books import Book
from lastshown.plays import play
from tests.brute import fewest_to_difference
from tests.oracle import ACTIONS, DOORS, Told, random_book, random_history

MOST = 10 ** 12
ONE = {"a": (1, 2, 3, 4)}
ANOTHER = {"a": (1, 2, 3, 4), "b": (1,)}
TWO = {"a": (1, 2), "b": (1, 2)}
FAIL = ("pay", False)
SHOWN = Book(put=("show",))

# Rules that do the same to every line.
SAME_RULES = (
    ((), ("take",), 0), (("take", "take"), ("take",), 1), (("least", "take"), ("take",), 1),
    (("take", "least"), ("take",), 1), (("last", "take", "show"), ("take", "show"), 1),
    (("last", "last"), ("last",), 1), (("take", "last", "take"), ("take",), 1), (("show", "show"), ("show",), 1),
    (("show", "last"), ("show",), 1), (("ask", "last", "ask"), ("ask",), 1), (("show", "ask"), ("show",), 1),
    (("least", "show", "ask", "show"), ("least", "show"), 1), (("take", "show", "least"), ("take", "show"), 1),
    (("least", "last", "least"), ("last", "least"), 1), (("show", "take", "show", "ask"), ("take", "show"), 1),
    (("show",), ("ask",), 0), (("take", "show"), ("show", "take"), 0), (("least", "last"), ("last", "least"), 0),
)
# Pairs that are the same to every person, though their rules do not do the same to every line.
ALIKE = (
    (SHOWN, Book(put=("show", "last"), pay=("last",), again=("ask",))),
    (SHOWN, Book(put=("last", "show", "ask"), look=("show",), back=("ask",), again=("last",))),
    (Book(), Book(put=("last",), pay=("last",), again=("last", "last"))),
    (Book(put=("show",), look=("take", "show")), Book(put=("show",), look=("take", "show"), pay=("ask",))),
    (Book(pay=("ask",)), Book(pay=("ask",), again=("last", "show"))),
    (Book(pay=("take", "ask"), again=("ask",)), Book(pay=("take", "ask"), again=("last",))),
    (Book(look=("take",), pay=("take",), again=("take",)), Book(pay=("take",), again=("take",))),
)
# Each pair with the fewest deeds of a difference.
APART = (
    (Book(), SHOWN, 1),
    (SHOWN, Book(put=("ask",)), 1),
    (Book(), Book(look=("show",)), 2),
    (Book(), Book(alter=("ask",)), 2),
    (Book(back=("show",)), Book(back=("ask",)), 2),
    (Book(), Book(pay=("show",)), 2),
    (Book(), Book(pay=("take",)), 3),
    (SHOWN, Book(put=("show",), pay=("least",)), 3),
    (SHOWN, Book(put=("show",), look=("take",)), 4),
    (Book(put=("show",), look=("take", "ask")), Book(put=("show",), look=("take", "show")), 3),
    (Book(look=("show",)), Book(look=("last", "show"), alter=("least",)), 4),
    (Book(put=("show",), look=("take", "ask"), back=("least",)),
     Book(put=("show",), look=("show", "take", "ask"), back=("least",)), 4),
)
# Pairs of which the difference shows only behind a payment that failed.
FAILING = (
    (SHOWN, Book(put=("show",), again=("take",)), 4),
    (Book(put=("show",), pay=("last",)), Book(put=("show",), pay=("last",), again=("take", "show")), 4),
    (Book(put=("ask",)), Book(put=("ask",), again=("least", "ask")), 4),
)
# Pairs of which the difference shows only with two items: each deed at the one line undoes what its payments did.
RENEWED = Book(put=("show",), look=("take", "show"), alter=("take", "show"), back=("take", "show"))
SECOND = (
    (RENEWED.with_rule("again", ("take",)), RENEWED.with_rule("again", ("take",)).with_rule("pay", ("show",)), 6),
    (RENEWED.with_rule("again", ("least",)), RENEWED.with_rule("again", ("least",)).with_rule("pay", ("last",)), 6),
    (RENEWED.with_rule("pay", ("take",)), RENEWED.with_rule("pay", ("show", "take")), 5),
)


class TestToldApart(unittest.TestCase):
    def check_apart(self, book, other, told):
        """It can be played, is told by its last deed alone, and has the kinds that the interface lists."""
        self.assertIs(type(told), tuple)
        prices, deeds = told
        self.assertIs(type(prices), tuple)
        self.assertIs(type(deeds), list)
        one, two = play(book, prices, deeds), play(other, prices, deeds)
        self.assertEqual(one[:-1], two[:-1])
        self.assertNotEqual(one[-1], two[-1])
        self.assertEqual((one, two), (Told(book, prices, deeds).reports, Told(other, prices, deeds).reports))

    def check_pair(self, book, other, fewest):
        for one, two in ((book, other), (other, book)):
            told = told_apart(one, two)
            if fewest is None:
                self.assertIsNone(told)
            else:
                self.check_apart(one, two, told)
                self.assertEqual(len(told[1]), fewest)

    def test_equal_books(self):
        choose = random.Random(41)
        for _ in range(50):
            book = random_book(choose, Book, 6)
            self.assertIsNone(told_apart(book, book))
            self.assertIsNone(told_apart(book, Book(*book.rules())))

    def test_rules_that_do_the_same(self):
        for one, two, same in SAME_RULES:
            for door in DOORS:
                for base in (Book(), Book(*[("take",)] * 6), SHOWN, Book(put=("show",), look=("take",), back=("least",))):
                    pair = base.with_rule(door, one), base.with_rule(door, two)
                    if same:
                        self.check_pair(*pair, None)
                    else:
                        self.check_pair(*pair, fewest_to_difference(*pair, ANOTHER))

    def test_books_that_are_alike(self):
        for book, other in ALIKE:
            self.check_pair(book, other, None)
            self.assertIsNone(fewest_to_difference(book, other, ANOTHER))
            self.assertIsNone(fewest_to_difference(book, other, TWO))

    def test_books_that_are_not(self):
        for book, other, fewest in (*APART, *FAILING, *SECOND):
            self.check_pair(book, other, fewest)
            self.assertEqual(fewest_to_difference(book, other, ANOTHER), fewest)

    def test_by_name(self):
        self.assertEqual(told_apart(book=Book(), other=SHOWN), told_apart(Book(), SHOWN))
        self.assertEqual(told_apart(other=Book(), book=SHOWN), told_apart(SHOWN, Book()))

    def test_each_list_is_new_and_the_books_stay_as_they_are(self):
        one, two = Book(), SHOWN
        told_apart(one, two)[1].append("x")
        self.check_pair(one, two, 1)
        self.assertEqual((one, two), (Book(), Book(put=("show",))))

    def test_behind_a_payment_that_failed_alone(self):
        for book, other, _ in (*FAILING, *SECOND):
            self.assertIsNone(fewest_to_difference(book, other, ANOTHER, barred=(FAIL,)))
            self.assertIn(FAIL, told_apart(book, other)[1])

    def test_with_two_items_alone(self):
        for book, other, _ in SECOND:
            self.assertIsNone(fewest_to_difference(book, other, ONE))
            self.assertEqual(len(told_apart(book, other)[0]), 2)
        for book, other, fewest in (*APART, *FAILING):
            self.assertEqual(fewest_to_difference(book, other, ONE), fewest)

    def test_removals_and_earlier_payments_make_no_history_shorter(self):
        removals = (("alter", "a", 0), ("alter", "b", 0))
        for book, other, fewest in (*APART, *FAILING, *SECOND):
            self.assertEqual(fewest_to_difference(book, other, ANOTHER, barred=removals), fewest)

    def test_a_removal_in_place_of_another_put(self):
        # The second item is put ahead of the payments, and its removal ends their row.
        prices = (("a", 1), ("b", 1))
        deeds = [("put", "a", 1), ("put", "b", 1), FAIL, ("price", "a", 2), FAIL, ("alter", "b", 0), ("pay", True)]
        book, other, _ = SECOND[0]
        one, two = play(book, prices, deeds), play(other, prices, deeds)
        self.assertEqual(one[:-1], two[:-1])
        self.assertNotEqual(one[-1], two[-1])

    def test_what_is_asked_alone_tells_books_apart(self):
        pairs = ((SHOWN, Book(put=("ask",))),
                 (SHOWN.with_rule("back", ("take", "show")), SHOWN.with_rule("back", ("take", "ask"))),
                 (SHOWN.with_rule("look", ("take", "ask")), SHOWN.with_rule("look", ("take", "ask", "least", "show"))))
        for (book, other), fewest in zip(pairs, (1, 3, None)):
            self.check_pair(book, other, fewest)
            if fewest:
                prices, deeds = told_apart(book, other)
                one, two = play(book, prices, deeds)[-1], play(other, prices, deeds)[-1]
                self.assertEqual((one[0], one[2]), (two[0], two[2]))

    def test_what_is_paid_alone_tells_books_apart(self):
        book, other = Book(), Book(pay=("take",))
        prices, deeds = told_apart(book, other)
        self.assertEqual(deeds[-1], ("pay", True))
        one, two = play(book, prices, deeds)[-1], play(other, prices, deeds)[-1]
        self.assertEqual(one[:2], two[:2])
        self.assertNotEqual(one[2], two[2])

    def test_equal_prices_of_different_moments_matter(self):
        # Both ask once and show the shop's price, unless it is the one that was shown, or the one that was kept.
        book = Book(put=("show",), look=("take", "ask"), back=("least",))
        other = book.with_rule("look", ("show", "take", "ask"))
        prices, deeds = (("a", 2),), [("put", "a", 1), ("price", "a", 1), ("back",), ("price", "a", 2), ("look",)]
        self.assertEqual([play(one, prices, deeds)[-1][1] for one in (book, other)], [[], ["a"]])

    def test_all_pairs_of_few_rules(self):
        few = [(), *[(action,) for action in ACTIONS]]
        for one, two, base in product(few, few, (Book(), SHOWN, Book(put=("show",), look=("take",)))):
            for door in ("put", "look", "pay", "again"):
                pair = base.with_rule(door, one), base.with_rule(door, two)
                told = told_apart(*pair)
                self.assertEqual(told and len(told[1]), fewest_to_difference(*pair, ANOTHER))

    def test_what_is_told_of_many_pairs_is_shortest(self):
        lengths = []
        for book, other in pairs(42, 240):
            told = told_apart(book, other)
            lengths.append(told and len(told[1]))
            self.assertEqual(fewest_to_difference(book, other, ANOTHER), lengths[-1])
            if told is not None:
                self.check_apart(book, other, told)
        self.assertEqual(sorted({length for length in lengths if length})[:6], [1, 2, 3, 4, 5, 6])
        self.assertGreater(lengths.count(None), 30)

    def test_two_items_with_prices_of_their_own_make_no_history_shorter(self):
        for book, other in pairs(43, 60):
            told = told_apart(book, other)
            self.assertIsNone(fewest_to_difference(book, other, TWO, len(told[1]) - 1 if told else 9))
            self.assertIsNone(fewest_to_difference(book, other, {item: (1, 2) for item in "abc"},
                                                   min(len(told[1]) - 1 if told else 4, 4)))

    def test_pairs_told_alike_are_played_alike_in_long_histories(self):
        choose = random.Random(44)
        found = [*ALIKE, *[pair for pair in pairs(45, 400) if told_apart(*pair) is None]]
        self.assertGreater(len(found), 80)
        for book, other in found:
            for amounts in ((1, 2), range(100), (0, 1, MOST - 1, MOST)):
                items = ("a", "tea", "milk", "jam", "oil", "abcdefgh")[:choose.randint(1, 6)]
                prices, deeds = random_history(choose, items, amounts, 60)
                self.assertEqual(play(book, prices, deeds), play(other, prices, deeds))


def near(choose, book):
    """A book with some actions more, fewer or others."""
    rules = [list(rule) for rule in book.rules()]
    for _ in range(choose.choice((1, 1, 1, 2, 3))):
        rule = choose.choice(rules)
        at = choose.randint(0, len(rule))
        rule[at:at + choose.randint(0, 1)] = [choose.choice(ACTIONS)] * choose.randint(0, 1)
    return Book(*[tuple(rule[:6]) for rule in rules])


def renewed(choose):
    """A random book of which few things but payments differ from the present price."""
    few = (("take", "show"), ("take", "ask"), ("show",), ("take",), ())
    deed = choose.choice(few)
    last = [tuple(choose.choice(ACTIONS) for _ in range(choose.randint(0, 2))) for _ in range(2)]
    return Book(choose.choice(few), deed, deed, deed, *last)


def pairs(seed, many):
    choose = random.Random(seed)
    for at in range(many):
        book = (random_book(choose, Book, 1), random_book(choose, Book, 3), renewed(choose), renewed(choose))[at % 4]
        yield book, near(choose, book)


if __name__ == "__main__":
    unittest.main()
