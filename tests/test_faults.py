"""[11] and [12]: what went wrong, and prices of no common moment."""

import unittest

from lastshown.books import Book
from lastshown.plays import faults, mixtures

TEA = (("tea", 4),)
BOTH = (("tea", 4), ("milk", 7))
BUY = ("pay", True)
FAIL = ("pay", False)


def price(amount, item="tea"):
    return ("price", item, amount)


def put(item="tea", number=1):
    return ("put", item, number)


class TestFaults(unittest.TestCase):
    def test_nothing_is_wrong_without_a_payment_that_is_done(self):
        book = Book(look=("show",), pay=("take",))
        for deeds in ([], [put()], [put(), ("look",), price(9), FAIL, FAIL], [BUY], [put(), ("alter", "tea", 0), BUY]):
            self.assertEqual(faults(book, TEA, deeds), [])

    def test_unshown(self):
        self.assertEqual(faults(Book(), TEA, [put(), BUY]), [("unshown", 1, "tea")])
        self.assertEqual(faults(Book(), (("tea", 0),), [put(), BUY]), [("unshown", 1, "tea")])

    def test_a_price_shown_as_it_is_paid_is_not_unshown(self):
        for rule in (("show",), ("ask",)):
            self.assertEqual(faults(Book(pay=rule), TEA, [put(), BUY]), [])

    def test_cheaper_than_the_last_shown_is_other(self):
        book = Book(put=("show",), pay=("take",))
        self.assertEqual(faults(book, TEA, [put(), price(3), BUY]), [("other", 2, "tea")])
        self.assertEqual(faults(book, TEA, [put(), price(0), BUY]), [("other", 2, "tea")])
        self.assertEqual(faults(book, TEA, [put(), price(4), BUY]), [])

    def test_above_all_that_were_shown_is_dearer_too(self):
        book = Book(put=("show",), pay=("take",))
        self.assertEqual(faults(book, TEA, [put(), price(5), BUY]), [("other", 2, "tea"), ("dearer", 2, "tea")])
        self.assertEqual(faults(book, (("tea", 0),), [put(), price(1), BUY]), [
            ("other", 2, "tea"), ("dearer", 2, "tea")])

    def test_above_the_last_shown_but_not_above_all_is_other_alone(self):
        book = Book(put=("show",), look=("take", "show"), pay=("take",))
        for paid, kinds in ((3, ["other"]), (4, ["other"]), (5, ["other", "dearer"]), (2, [])):
            deeds = [put(), price(2), ("look",), price(paid), BUY]
            self.assertEqual(faults(book, TEA, deeds), [(kind, 4, "tea") for kind in kinds])

    def test_all_prices_that_a_rule_shows_count(self):
        book = Book(put=("show",), look=("take", "show", "least", "show"), back=("take", "ask"), pay=("take",))
        for deed in (("look",), ("back",)):
            deeds = [put(), price(9), deed, price(2), deed, price(8), BUY]
            self.assertEqual(faults(book, TEA, deeds), [("other", 6, "tea")])
        book = Book(look=("take", "show", "last"), back=("show", "take", "show"), pay=("take",))
        deeds = [put(), price(3), ("back",), price(4), BUY]
        self.assertEqual(faults(book, TEA, deeds), [("other", 4, "tea")])
        self.assertEqual(faults(book, TEA, [*deeds[:3], price(5), BUY]), [("other", 4, "tea"), ("dearer", 4, "tea")])

    def test_only_prices_shown_since_the_line_began_count(self):
        book = Book(put=("show",), pay=("take",))
        for removal in (("alter", "tea", 0), BUY):
            deeds = [put(), removal, price(2), put(), price(3), BUY]
            self.assertEqual(faults(book, TEA, deeds), [("other", 5, "tea"), ("dearer", 5, "tea")])

    def test_nothing_is_shown_of_a_line_that_began_anew(self):
        for removal in (("alter", "tea", 0), BUY):
            deeds = [put(), ("look",), removal, put(), BUY]
            self.assertEqual(faults(Book(look=("show",)), TEA, deeds), [("unshown", 4, "tea")])

    def test_each_payment_and_each_line_in_order(self):
        book = Book(look=("show",), pay=("take",))
        deeds = [put("milk"), put("tea"), ("look",), price(9), price(1, "milk"), BUY, put("tea"), put("milk"), BUY]
        self.assertEqual(faults(book, BOTH, deeds), [
            ("other", 5, "milk"), ("other", 5, "tea"), ("dearer", 5, "tea"), ("unshown", 8, "tea"),
            ("unshown", 8, "milk")])

    def test_the_rule_of_a_payment_behind_a_failed_one(self):
        book = Book(pay=("show",), again=("take",))
        deeds = [put(), FAIL, price(5), price(6, "milk"), BUY]
        self.assertEqual(faults(book, BOTH, deeds), [("other", 4, "tea"), ("dearer", 4, "tea")])
        self.assertEqual(faults(book, BOTH, [put(), FAIL, ("look",), price(5), BUY]), [])


class TestMixtures(unittest.TestCase):
    shows = Book(put=("show",))

    def test_one_line_is_always_of_some_moment(self):
        deeds = [put(), price(5), ("look",), price(6), ("look",), BUY]
        self.assertEqual(mixtures(self.shows, TEA, deeds), [])
        self.assertEqual(mixtures(Book(look=("take", "show"), pay=("take",)), TEA, deeds), [])

    def test_two_prices_of_no_common_moment(self):
        deeds = [put("tea"), price(5), price(8, "milk"), put("milk"), ("look",), price(1), BUY, ("look",)]
        self.assertEqual(mixtures(self.shows, BOTH, deeds), [3, 4, 6])

    def test_two_prices_of_a_common_moment(self):
        self.assertEqual(mixtures(self.shows, BOTH, [put("tea"), price(5), put("milk"), BUY]), [])
        self.assertEqual(mixtures(self.shows, BOTH, [put("tea"), price(8, "milk"), put("milk"), BUY]), [])

    def test_a_moment_ahead_of_the_first_deed(self):
        book = Book(look=("show",))
        deeds = [put("tea"), put("milk"), price(5), price(8, "milk"), ("look",)]
        self.assertEqual(mixtures(book, BOTH, deeds), [])
        deeds = [price(5), put("tea"), price(6), price(8, "milk"), put("milk"), price(4), price(7, "milk"), ("look",)]
        self.assertEqual(mixtures(book, BOTH, deeds), [7])

    def test_only_moments_up_to_then_count(self):
        # The shown prices 4 and 8 stand side by side only behind the last price.
        deeds = [put("tea"), price(5), price(8, "milk"), put("milk"), ("look",), price(4), ("look",), BUY]
        self.assertEqual(mixtures(self.shows, BOTH, deeds), [3, 4])

    def test_a_moment_between_two_prices_counts(self):
        # The prices 5 and 7 stand side by side only between the two deeds "price".
        book = Book(put=("show",), look=("take", "show"))
        deeds = [put("milk"), price(5), price(8, "milk"), put("tea"), ("back",)]
        self.assertEqual(mixtures(book, BOTH, deeds), [])

    def test_lines_of_which_nothing_was_shown_do_not_count(self):
        book = Book(alter=("show",))
        deeds = [put("tea"), ("alter", "tea", 1), price(5), price(8, "milk"), put("milk"), ("look",),
                 ("alter", "milk", 1)]
        self.assertEqual(mixtures(book, BOTH, deeds), [6])
        self.assertEqual(mixtures(Book(), BOTH, deeds), [])

    def test_lines_are_looked_at_ahead_of_their_removal_by_a_payment_but_behind_an_alter(self):
        book = Book(pay=("show",))
        deeds = [put("tea"), price(5), price(8, "milk"), put("milk"), BUY, ("look",)]
        self.assertEqual(mixtures(book, BOTH, deeds), [4])
        deeds = [put("tea"), price(5), price(8, "milk"), put("milk"), ("alter", "tea", 0), ("look",)]
        self.assertEqual(mixtures(self.shows, BOTH, deeds), [3])

    def test_prices_are_no_deeds_of_the_person(self):
        deeds = [put("tea"), price(5), price(8, "milk"), put("milk"), price(9), price(1, "milk"), ("back",)]
        self.assertEqual(mixtures(self.shows, BOTH, deeds), [3, 6])

    def test_three_lines_that_agree_only_two_by_two(self):
        prices = (("a", 1), ("b", 1), ("c", 1))
        book = Book(look=("show",))
        # Kept: a at 2 (beside b 1), b at 2 (beside a 2, c 1), c at 2 (beside a 1): a 2, b 2, c 2 never stand together.
        deeds = [price(2, "a"), put("a"), price(2, "b"), put("b"), price(1, "a"), price(2, "c"), put("c"), ("look",)]
        self.assertEqual(mixtures(book, prices, deeds), [7])
        self.assertEqual(mixtures(book, prices, [*deeds, price(2, "a"), ("look",)]), [7])
        self.assertEqual(mixtures(book, prices, [*deeds[:4], price(2, "c"), put("c"), ("look",)]), [])


if __name__ == "__main__":
    unittest.main()
