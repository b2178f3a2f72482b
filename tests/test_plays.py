"""[6] to [10] and [2]: histories and what is told of them."""

import copy
import random
import unittest

from lastshown.books import Book
from lastshown.errors import NoDeed, NoItem, NoLine, NoPrices
from lastshown.plays import faults, mixtures, play
from tests.oracle import DOORS, Told, random_book, random_history
from tests.strange import BAD_DEEDS, BAD_PRICES, STRANGE

TEA = (("tea", 4),)
BOTH = (("tea", 4), ("milk", 7))
MOST = 10 ** 12
BUY = ("pay", True)
FAIL = ("pay", False)


def last_lines(book, prices, deeds):
    return play(book, prices, deeds)[-1][0]


def kept_at_the_end(book, prices, deeds):
    """The prices that are paid if the rules of the payments change nothing."""
    return [price for _, _, price in play(book.with_rule("pay", ()), prices, [*deeds, BUY])[-1][2]]


class TestPlay(unittest.TestCase):
    def test_the_example(self):
        book = Book(put=("show",), look=("take", "show"), pay=("take",))
        deeds = [("put", "tea", 2), ("price", "tea", 5), ("look",), ("price", "tea", 6), ("pay", True)]
        self.assertEqual(play(book, TEA, deeds), [
            ([("tea", 2, 4)], [], None), None, ([("tea", 2, 5)], [], None), None, ([("tea", 2, 5)], [], [("tea", 2, 6)])])
        self.assertEqual(faults(book, TEA, deeds), [("other", 4, "tea"), ("dearer", 4, "tea")])

    def test_no_deeds(self):
        self.assertEqual(play(Book(), TEA, []), [])

    def test_the_empty_book_keeps_the_first_price_and_shows_nothing(self):
        deeds = [("put", "tea", 1), ("price", "tea", 9), ("look",), ("back",), ("alter", "tea", 3), FAIL, BUY]
        told = play(Book(), TEA, deeds)
        self.assertEqual(told[2], ([("tea", 1, None)], [], None))
        self.assertEqual(told[-2], ([("tea", 3, None)], [], None))
        self.assertEqual(told[-1], ([("tea", 3, None)], [], [("tea", 3, 4)]))

    def test_a_cart_without_lines_is_looked_at_and_paid(self):
        deeds = [("look",), ("back",), FAIL, FAIL, BUY, ("look",), BUY]
        nothing = ([], [], None)
        self.assertEqual(play(Book(pay=("ask",)), BOTH, deeds), [
            nothing, nothing, nothing, nothing, ([], [], []), nothing, ([], [], [])])

    def test_a_price_tells_nothing_and_may_stay(self):
        deeds = [("price", "tea", 4), ("put", "tea", 1), ("price", "tea", 4), ("look",)]
        self.assertEqual(play(Book(look=("take", "show")), TEA, deeds), [
            None, ([("tea", 1, None)], [], None), None, ([("tea", 1, 4)], [], None)])

    def test_the_cart_keeps_the_price_of_the_moment_of_the_put(self):
        deeds = [("price", "tea", 8), ("put", "tea", 1), ("price", "tea", 2)]
        self.assertEqual(kept_at_the_end(Book(), TEA, deeds), [8])

    def test_lines_stand_in_the_order_in_which_they_were_put(self):
        deeds = [("put", "milk", 1), ("put", "tea", 2), ("put", "milk", 3), ("look",)]
        self.assertEqual(last_lines(Book(), BOTH, deeds), [("milk", 4, None), ("tea", 2, None)])

    def test_a_put_again_grows_the_number_and_keeps_the_price(self):
        deeds = [("put", "tea", 1000), ("price", "tea", 9), ("put", "tea", 1000), ("put", "tea", 1)]
        self.assertEqual(last_lines(Book(), TEA, deeds), [("tea", 2001, None)])
        self.assertEqual(kept_at_the_end(Book(), TEA, deeds), [4])
        self.assertEqual(kept_at_the_end(Book(put=("take",)), TEA, deeds), [9])

    def test_a_put_carries_out_its_rule_for_its_line_alone(self):
        deeds = [("put", "tea", 1), ("price", "tea", 9), ("put", "milk", 1)]
        self.assertEqual(last_lines(Book(put=("take", "show")), BOTH, deeds), [("tea", 1, 4), ("milk", 1, 7)])

    def test_an_alter_carries_out_its_rule_for_its_line_alone(self):
        deeds = [("put", "tea", 1), ("put", "milk", 1), ("price", "tea", 9), ("alter", "milk", 1000)]
        self.assertEqual(last_lines(Book(alter=("take", "show")), BOTH, deeds), [("tea", 1, None), ("milk", 1000, 7)])

    def test_an_alter_to_0_removes_the_line_and_carries_out_no_rule(self):
        deeds = [("put", "tea", 1), ("put", "milk", 1), ("alter", "tea", 0)]
        self.assertEqual(play(Book(alter=("ask",)), BOTH, deeds)[-1], ([("milk", 1, None)], [], None))

    def test_a_line_that_is_removed_and_put_again_begins_anew_at_the_end(self):
        deeds = [("put", "tea", 5), ("put", "milk", 1), ("look",), ("alter", "tea", 0), ("price", "tea", 9),
                 ("put", "tea", 2)]
        self.assertEqual(last_lines(Book(look=("show",)), BOTH, deeds), [("milk", 1, 7), ("tea", 2, None)])
        self.assertEqual(kept_at_the_end(Book(look=("show",)), BOTH, deeds), [7, 9])

    def test_a_line_begins_anew_behind_a_payment(self):
        deeds = [("put", "tea", 5), ("look",), BUY, ("price", "tea", 9), ("put", "tea", 2), BUY]
        told = play(Book(look=("show",)), TEA, deeds)
        self.assertEqual(told[2], ([("tea", 5, 4)], [], [("tea", 5, 4)]))
        self.assertEqual(told[4], ([("tea", 2, None)], [], None))
        self.assertEqual(told[5], ([("tea", 2, None)], [], [("tea", 2, 9)]))

    def test_look_back_and_pay_carry_out_their_rules_for_each_line(self):
        for door, deed in (("look", ("look",)), ("back", ("back",)), ("pay", FAIL), ("pay", BUY)):
            deeds = [("put", "milk", 1), ("put", "tea", 1), ("price", "tea", 5), deed]
            told = play(Book(**{door: ("take", "ask")}), BOTH, deeds)[-1]
            self.assertEqual(told[:2], ([("milk", 1, 7), ("tea", 1, 5)], ["milk", "tea"]))

    def test_the_amounts_0_and_the_highest(self):
        prices = (("a", 0), ("abcdefgh", MOST))
        deeds = [("put", "a", 1), ("put", "abcdefgh", 1000), ("look",), BUY]
        self.assertEqual(play(Book(look=("show",)), prices, deeds)[-1], (
            [("a", 1, 0), ("abcdefgh", 1000, MOST)], [], [("a", 1, 0), ("abcdefgh", 1000, MOST)]))
        deeds = [("put", "a", 1), ("price", "a", MOST), ("look",), ("price", "a", 0), ("look",)]
        self.assertEqual(last_lines(Book(look=("take", "show")), prices, deeds), [("a", 1, 0)])

    def test_one_and_six_items(self):
        for items in ("a", "abcdef"):
            prices = tuple((item, at) for at, item in enumerate(items))
            deeds = [("put", item, 1) for item in items] + [("look",), BUY]
            shown = [(item, 1, at) for at, item in enumerate(items)]
            self.assertEqual(play(Book(look=("show",)), prices, deeds)[-1], (shown, [], shown))

    def test_arguments_by_name(self):
        deeds = [("put", "tea", 1), BUY]
        for function in (play, faults, mixtures):
            self.assertEqual(function(book=Book(), prices=TEA, deeds=deeds), function(Book(), TEA, deeds))


class TestPayments(unittest.TestCase):
    book = Book(pay=("take", "show"), again=("last", "ask"))

    def shown(self, deeds):
        return play(self.book, BOTH, [("put", "tea", 1), *deeds])[-1][0][0][2]

    def test_a_payment_behind_a_failed_one(self):
        self.assertEqual(self.shown([FAIL, ("price", "tea", 9), BUY]), 4)
        self.assertEqual(self.shown([FAIL, ("price", "tea", 9), FAIL]), 4)
        self.assertEqual(self.shown([FAIL, ("price", "tea", 9), FAIL, FAIL, ("price", "milk", 1), BUY]), 4)

    def test_prices_between_do_not_matter(self):
        between = [("price", "tea", 9), ("price", "milk", 1), ("price", "tea", 8)]
        self.assertEqual(self.shown([FAIL, *between, BUY]), 4)

    def test_any_deed_of_the_person_between_matters(self):
        for deed in (("look",), ("back",), ("put", "tea", 1), ("put", "milk", 1), ("alter", "tea", 2)):
            for deeds in ([FAIL, deed, ("price", "tea", 9), BUY], [FAIL, ("price", "tea", 9), deed, FAIL]):
                self.assertEqual(self.shown(deeds), 9, deeds)
        self.assertEqual(self.shown([("put", "milk", 1), FAIL, ("alter", "milk", 0), ("price", "tea", 9), BUY]), 9)

    def test_a_payment_behind_one_that_was_done_is_a_first_one(self):
        self.assertEqual(self.shown([FAIL, BUY, ("put", "tea", 1), ("price", "tea", 9), BUY]), 9)
        told = play(Book(pay=("ask",)), TEA, [FAIL, BUY, BUY, ("put", "tea", 1), BUY])
        self.assertEqual(told[-1], ([("tea", 1, 4)], ["tea"], [("tea", 1, 4)]))

    def test_a_failed_payment_of_no_lines_counts_too(self):
        told = play(Book(pay=("ask",)), TEA, [("put", "tea", 1), ("alter", "tea", 0), FAIL, ("put", "tea", 1), FAIL])
        self.assertEqual(told[-1], ([("tea", 1, 4)], ["tea"], None))

    def test_lines_stay_behind_a_failed_payment(self):
        told = play(self.book, TEA, [("put", "tea", 3), FAIL, ("look",)])
        self.assertEqual(told[1:], [([("tea", 3, 4)], [], None), ([("tea", 3, 4)], [], None)])


class TestActions(unittest.TestCase):
    """Each action at a line that keeps 4, with or without a price shown, at another price of the shop."""

    def kept(self, rule, price, start=4):
        deeds = [("put", "tea", 1), ("price", "tea", price), ("look",)]
        return kept_at_the_end(Book(look=rule), (("tea", start),), deeds)[0]

    def test_take(self):
        self.assertEqual([self.kept(("take",), price) for price in (0, 3, 4, 5)], [0, 3, 4, 5])

    def test_least(self):
        self.assertEqual([self.kept(("least",), price) for price in (0, 3, 4, 5)], [0, 3, 4, 4])

    def test_last(self):
        self.assertEqual(self.kept(("last",), 9), 4)
        self.assertEqual(self.kept(("take", "last"), 9), 9)
        self.assertEqual(self.kept(("show", "take", "last"), 9), 4)
        self.assertEqual(self.kept(("show", "take", "last"), 9, 0), 0)
        self.assertEqual(self.kept(("show", "take", "show", "last"), 9), 9)

    def test_show(self):
        deeds = [("put", "tea", 1), ("price", "tea", 9), ("look",)]
        self.assertEqual(play(Book(look=("show", "take")), TEA, deeds)[-1], ([("tea", 1, 4)], [], None))
        self.assertEqual(play(Book(look=("take", "show")), TEA, deeds)[-1], ([("tea", 1, 9)], [], None))

    def test_ask_where_nothing_was_shown(self):
        self.assertEqual(play(Book(put=("ask",)), TEA, [("put", "tea", 1)]), [([("tea", 1, 4)], ["tea"], None)])
        self.assertEqual(play(Book(put=("ask",)), (("tea", 0),), [("put", "tea", 1)]), [([("tea", 1, 0)], ["tea"], None)])

    def test_ask_where_another_price_was_shown(self):
        for price in (3, 5):
            deeds = [("put", "tea", 1), ("price", "tea", price), ("look",)]
            told = play(Book(put=("show",), look=("take", "ask")), TEA, deeds)
            self.assertEqual(told[-1], ([("tea", 1, price)], ["tea"], None))

    def test_ask_where_the_price_was_shown(self):
        for rule in (("show", "ask"), ("take", "show", "ask"), ("show", "take", "last", "ask")):
            self.assertEqual(play(Book(put=rule), TEA, [("put", "tea", 1)]), [([("tea", 1, 4)], [], None)])

    def test_the_person_is_asked_about_a_line_several_times(self):
        book = Book(look=("ask", "take", "ask", "ask"))
        deeds = [("put", "milk", 1), ("put", "tea", 1), ("price", "tea", 5), ("look",), ("price", "milk", 6), ("look",)]
        told = play(book, BOTH, deeds)
        self.assertEqual(told[3], ([("milk", 1, 7), ("tea", 1, 5)], ["milk", "tea", "tea"], None))
        self.assertEqual(told[5], ([("milk", 1, 6), ("tea", 1, 5)], ["milk"], None))

    def test_six_actions(self):
        rule = ("take", "show", "take", "ask", "least", "last")
        deeds = [("put", "tea", 1), ("price", "tea", 3), ("look",)]
        self.assertEqual(play(Book(look=rule), TEA, deeds)[-1], ([("tea", 1, 3)], [], None))
        rule = ("show", "take", "ask", "least", "show", "ask")
        self.assertEqual(play(Book(look=rule), TEA, deeds)[-1], ([("tea", 1, 3)], ["tea"], None))


class TestErrors(unittest.TestCase):
    def caught(self, error, prices, deeds):
        told = []
        for function in (play, faults, mixtures):
            with self.assertRaises(error) as caught:
                function(Book(pay=("ask",)), prices, deeds)
            self.assertIs(type(caught.exception), error)
            told.append(caught.exception)
        return told

    def check_index(self, error, index, deeds, prices=TEA):
        for one in self.caught(error, prices, deeds):
            self.assertEqual(one.index, index)
            self.assertIs(type(one.index), int)

    def test_no_prices(self):
        for bad in BAD_PRICES:
            self.caught(NoPrices, bad, [])

    def test_good_prices(self):
        for good in ((("a", 0),), (("z", MOST),), (("abcdefgh", 1),), tuple((item, 1) for item in "abcdef")):
            self.assertEqual(play(Book(), good, [("look",)]), [([], [], None)])

    def test_no_deed(self):
        for bad in BAD_DEEDS:
            self.check_index(NoDeed, 0, [bad])
            self.check_index(NoDeed, 2, [("put", "tea", 1), ("look",), bad, bad, ("look",)])

    def test_deeds_that_are_no_list(self):
        for bad in (*STRANGE, (), (("look",),), "", {}, iter([("look",)])):
            if not isinstance(bad, list):
                self.check_index(NoDeed, 0, bad)

    def test_good_deeds(self):
        deeds = [("price", "tea", 0), ("price", "tea", MOST), ("put", "tea", 1), ("put", "tea", 1000), ("look",),
                 ("alter", "tea", 1000), ("alter", "tea", 0), ("back",), FAIL, BUY]
        self.assertEqual(len(play(Book(), TEA, deeds)), 10)

    def test_no_item(self):
        for deed in (("price", "milk", 1), ("put", "milk", 1), ("alter", "milk", 1), ("alter", "milk", 0)):
            self.check_index(NoItem, 0, [deed])
            self.check_index(NoItem, 2, [("put", "tea", 1), FAIL, deed, ("put", "jam", 1)])

    def test_no_line(self):
        for number in (0, 1, 1000):
            deed = ("alter", "tea", number)
            self.check_index(NoLine, 0, [deed])
            self.check_index(NoLine, 1, [("put", "milk", 1), deed], BOTH)
            self.check_index(NoLine, 2, [("put", "tea", 1), ("alter", "tea", 0), deed])
            self.check_index(NoLine, 3, [("put", "tea", 1), FAIL, BUY, deed, deed])

    def test_prices_are_checked_ahead_of_deeds(self):
        for bad in ((), None, [], (("tea", True),)):
            self.caught(NoPrices, bad, None)
            self.caught(NoPrices, bad, [None])
            self.caught(NoPrices, bad, [("alter", "tea", 1)])

    def test_all_deeds_are_checked_ahead_of_playing_them(self):
        self.check_index(NoDeed, 2, [("put", "milk", 1), ("alter", "tea", 1), ("look", 1)])
        self.check_index(NoDeed, 1, [("alter", "tea", 1), ("put", "tea", True), None])

    def test_the_first_deed_that_cannot_be_played_is_told(self):
        self.check_index(NoLine, 0, [("alter", "tea", 1), ("put", "milk", 1)])
        self.check_index(NoItem, 0, [("put", "milk", 1), ("alter", "tea", 1)])
        self.check_index(NoItem, 1, [("look",), ("alter", "milk", 1), ("alter", "tea", 1)])


class TestManyHistories(unittest.TestCase):
    def test_what_is_told_is_what_the_document_says(self):
        choose = random.Random(1)
        for _ in range(600):
            book = random_book(choose, Book, choose.choice((1, 3, 6)))
            items = ("tea", "milk", "a", "abcdefgh", "jam", "oil")[:choose.randint(1, 6)]
            amounts = choose.choice(((1, 2), (0, MOST), (0, 1, 2, 3, 4, 5), range(1000)))
            prices, deeds = random_history(choose, items, amounts, choose.randint(0, 60))
            told = Told(book, prices, deeds)
            self.assertEqual(play(book, prices, deeds), told.reports)
            self.assertEqual(faults(book, prices, deeds), told.faults)
            self.assertEqual(mixtures(book, prices, deeds), told.mixtures)

    def test_200_deeds_and_somewhat_more(self):
        choose = random.Random(2)
        for many in (200, 230):
            for _ in range(10):
                book = random_book(choose, Book)
                prices, deeds = random_history(choose, tuple("abcdef"), range(4), many)
                told = Told(book, prices, deeds)
                self.assertEqual(play(book, prices, deeds), told.reports)
                self.assertEqual(faults(book, prices, deeds), told.faults)
                self.assertEqual(mixtures(book, prices, deeds), told.mixtures)

    def test_a_number_grows_far_beyond_1000(self):
        deeds = [("put", "tea", 1000)] * 199 + [BUY]
        self.assertEqual(play(Book(), TEA, deeds)[-1][2], [("tea", 199000, 4)])

    def test_arguments_stay_as_they_are(self):
        choose = random.Random(3)
        for _ in range(50):
            book = random_book(choose, Book)
            prices, deeds = random_history(choose, ("a", "b"), range(4), 20)
            rules, old_prices, old_deeds = book.rules(), copy.deepcopy(prices), copy.deepcopy(deeds)
            for function in (play, faults, mixtures):
                function(book, prices, deeds)
            self.assertEqual((book.rules(), prices, deeds), (rules, old_prices, old_deeds))

    def test_every_returned_list_is_new(self):
        book = Book(put=("ask",))
        deeds = [("put", "a", 1), ("look",), ("back",), FAIL, ("price", "a", 2), BUY, ("look",), BUY]
        prices = (("a", 1),)
        told = play(book, prices, deeds)
        lists = [told] + [part for one in told if one for part in one if part is not None]
        for found in (faults(book, prices, deeds), faults(book, prices, deeds), mixtures(book, prices, deeds),
                      mixtures(book, prices, deeds)):
            lists.append(found)
        self.assertEqual(len({id(one) for one in lists}), len(lists))
        self.assertTrue(all(type(one) is list for one in lists))
        for one in lists:
            one.append("x")
        self.assertEqual(play(book, prices, deeds), Told(book, prices, deeds).reports)
        self.assertEqual(len(deeds), 8)

    def test_doors_are_looked_up_by_their_deeds(self):
        deeds = [("put", "a", 1), ("look",), ("alter", "a", 1), ("back",), FAIL, FAIL]
        for at, door in enumerate(DOORS):
            asked = [one[1] for one in play(Book(**{door: ("ask",)}), (("a", 1),), deeds)]
            self.assertEqual(asked, [["a"] if index == at else [] for index in range(6)])


if __name__ == "__main__":
    unittest.main()
