"""[18] to [20]: a live shop, and what it takes back."""

import copy
import random
import unittest

from lastshown.books import Book
from lastshown.errors import Missing, NoDeed, NoItem, NoLine, NoPrices, NothingToUndo
from lastshown.plays import play
from lastshown.shops import Shop
from tests.oracle import Told, random_book, random_history
from tests.strange import BAD_DEEDS, BAD_PRICES, STRANGE

MOST = 10 ** 12
BOTH = (("tea", 4), ("milk", 7))
BUY = ("pay", True)
FAIL = ("pay", False)
PUT = ("put", "tea", 2)
SHOWING = Book(put=("show",), look=("take", "ask"))


class Model:
    """A shop that plays all that is not taken back anew, by what the document says, whenever it is asked."""

    def __init__(self, book, prices):
        self.book = book
        self.prices = prices
        self.calls = []

    def told(self):
        told = Told(self.book, self.prices, [])
        for call in self.calls:
            if isinstance(call, Book):
                told.rules = Told(call, self.prices, []).rules
                continue
            for deed in call:
                told.play(0, deed)
        return told

    def seen(self):
        """All that a shop tells of itself."""
        told = self.told()
        reports = [one for one in told.reports if one is not None]
        lines = [(one["item"], one["number"], one["kept"], one["shown"][-1] if one["shown"] else None)
                 for one in told.lines]
        paid = sum(number * price for one in reports for _, number, price in one[2] or [])
        total = sum(number * kept for _, number, kept, _ in lines)
        books = [call for call in self.calls if isinstance(call, Book)]
        return (lines, dict(told.prices), paid, len(told.reports), total, sum(len(one[1]) for one in reports),
                (books or [self.book])[-1], [line[0] for line in lines])


def seen(shop, items):
    return (shop.lines(), {item: shop.price(item) for item in items}, shop.paid(), len(shop), shop.total, shop.asked,
            shop.book, [line[0] for line in shop.lines() if line[0] in shop])


class ShopCase(unittest.TestCase):
    def caught(self, error, call, *args):
        with self.assertRaises(error) as told:
            call(*args)
        self.assertIs(type(told.exception), error)
        return told.exception

    def unchanged(self, shop, call, *args):
        """The error of a call that changes nothing."""
        old = seen(shop, ("tea", "milk"))
        with self.assertRaises(ValueError) as told:
            call(*args)
        self.assertEqual(seen(shop, ("tea", "milk")), old)
        return told.exception


class TestDeeds(ShopCase):
    def test_a_new_shop(self):
        shop = Shop(SHOWING, BOTH)
        self.assertEqual(seen(shop, ("tea", "milk")), ([], {"tea": 4, "milk": 7}, 0, 0, 0, 0, SHOWING, []))

    def test_arguments_by_name(self):
        shop = Shop(prices=BOTH, book=Book())
        self.assertEqual(shop.do(deed=PUT), ([("tea", 2, None)], [], None))
        self.assertEqual(shop.do_all(deeds=[("look",)]), [([("tea", 2, None)], [], None)])
        self.assertIsNone(shop.change(book=SHOWING))
        self.assertEqual(shop.price(item="milk"), 7)

    def test_a_deed_tells_its_report(self):
        shop = Shop(SHOWING, BOTH)
        self.assertEqual(shop.do(PUT), ([("tea", 2, 4)], [], None))
        self.assertIsNone(shop.do(("price", "tea", 5)))
        self.assertEqual(shop.do(("look",)), ([("tea", 2, 5)], ["tea"], None))
        self.assertEqual(shop.do(FAIL), ([("tea", 2, 5)], [], None))
        self.assertEqual(shop.lines(), [("tea", 2, 5, 5)])
        self.assertEqual((shop.total, shop.asked, shop.paid(), len(shop)), (10, 1, 0, 4))
        self.assertEqual(shop.do(BUY), ([("tea", 2, 5)], [], [("tea", 2, 5)]))
        self.assertEqual((shop.lines(), shop.total, shop.asked, shop.paid(), len(shop)), ([], 0, 1, 10, 5))

    def test_do_all_tells_all_reports(self):
        shop = Shop(SHOWING, BOTH)
        shop.do(("price", "milk", 1))
        deeds = [PUT, ("price", "tea", 5), ("look",), BUY, ("put", "milk", 3), BUY]
        self.assertEqual(shop.do_all(deeds), play(SHOWING, (("tea", 4), ("milk", 1)), deeds))
        self.assertEqual((shop.paid(), len(shop), shop.asked), (13, 7, 1))
        self.assertEqual(shop.do_all([]), [])
        self.assertEqual(len(shop), 7)

    def test_lines_tell_what_is_kept_and_shown(self):
        shop = Shop(Book(look=("show",)), BOTH)
        shop.do_all([("put", "milk", 1), ("look",), PUT, ("price", "tea", 9), ("put", "tea", 1000)])
        self.assertEqual(shop.lines(), [("milk", 1, 7, 7), ("tea", 1002, 4, None)])
        self.assertEqual(shop.total, 7 + 1002 * 4)
        shop.do(("alter", "milk", 0))
        self.assertEqual(shop.lines(), [("tea", 1002, 4, None)])

    def test_the_price_is_the_shops(self):
        shop = Shop(Book(), BOTH)
        shop.do_all([PUT, ("price", "tea", MOST), ("price", "milk", 0)])
        self.assertEqual((shop.price("tea"), shop.price("milk")), (MOST, 0))

    def test_missing(self):
        shop = Shop(Book(), BOTH)
        for bad in (*STRANGE, "jam", "Tea", "te", b"tea", ["tea"], ("tea",), {"tea": 1}):
            self.assertIs(self.caught(Missing, shop.price, bad).item, bad)

    def test_in_tells_lines_alone(self):
        shop = Shop(Book(), BOTH)
        self.assertNotIn("tea", shop)
        shop.do(PUT)
        self.assertIs("tea" in shop, True)
        for other in (*STRANGE, "milk", "jam", "te", "tea ", b"tea", ["tea"], ("tea",), {"tea": 1}, PUT, 4, 2):
            self.assertIs(other in shop, False)
        shop.do(BUY)
        self.assertIs("tea" in shop, False)

    def test_the_highest_amounts(self):
        prices = tuple((item, MOST) for item in "abcdef")
        shop = Shop(Book(), prices)
        for item in "abcdef":
            shop.do_all([("put", item, 1000)] * 10)
        self.assertEqual(shop.total, 60000 * MOST)
        shop.do(BUY)
        self.assertEqual((shop.paid(), len(shop)), (60000 * MOST, 61))

    def test_what_is_told_is_the_callers(self):
        shop = Shop(SHOWING, BOTH)
        deeds = [PUT, ("price", "tea", 5), ("look",), FAIL]
        reports = shop.do_all(deeds)
        old = copy.deepcopy(seen(shop, ("tea", "milk")))
        for told in (*reports, shop.do(("look",)), shop.do(BUY)):
            for part in told or ():
                if part is not None:
                    part.append("x")
        shop.undo(), shop.undo()
        reports.clear(), deeds.clear(), shop.lines().append("x")
        self.assertEqual(seen(shop, ("tea", "milk")), old)
        self.assertIsNot(shop.lines(), shop.lines())

    def test_two_shops_side_by_side(self):
        one, two = Shop(SHOWING, BOTH), Shop(SHOWING, BOTH)
        one.do_all([PUT, ("price", "tea", 9), BUY, PUT])
        self.assertEqual(seen(two, ("tea", "milk")), ([], {"tea": 4, "milk": 7}, 0, 0, 0, 0, SHOWING, []))
        two.change(Book())
        self.assertEqual(one.book, SHOWING)
        self.caught(NothingToUndo, Shop(SHOWING, BOTH).undo)
        two.undo()
        self.assertEqual(len(one), 4)

    def test_methods_are_defined_in_the_class(self):
        for name in ("do", "do_all", "undo", "change", "price", "lines", "paid", "__len__", "__contains__"):
            self.assertTrue(callable(vars(Shop)[name]))
        for name in ("total", "asked", "book"):
            self.assertIsInstance(vars(Shop)[name], property)
        self.assertIsNone(Shop.total.fset)
        self.assertIsNone(Shop.asked.fset)


class TestErrors(ShopCase):
    def test_no_prices(self):
        for bad in BAD_PRICES:
            self.caught(NoPrices, Shop, Book(), bad)

    def test_no_deed(self):
        shop = Shop(Book(), BOTH)
        for many in (0, 1, 2):
            for bad in BAD_DEEDS:
                told = self.unchanged(shop, shop.do, bad)
                self.assertEqual((type(told), told.index), (NoDeed, many))
                told = self.unchanged(shop, shop.do_all, [PUT, ("alter", "milk", 1), bad])
                self.assertEqual((type(told), told.index), (NoDeed, many + 2))
            for bad in (*STRANGE, (), (PUT,), PUT, {}, iter([PUT])):
                if not isinstance(bad, list):
                    told = self.unchanged(shop, shop.do_all, bad)
                    self.assertEqual((type(told), told.index), (NoDeed, many))
            shop.do(PUT)

    def test_no_item_and_no_line(self):
        shop = Shop(Book(), BOTH)
        for many in (0, 1, 2):
            for deed in (("put", "jam", 1), ("alter", "jam", 1), ("price", "jam", 1), ("alter", "jam", 0)):
                self.assertEqual(self.unchanged(shop, shop.do, deed).index, many)
                self.caught(NoItem, shop.do, deed)
            for deed in (("alter", "milk", 1), ("alter", "milk", 0)):
                self.assertEqual(self.unchanged(shop, shop.do, deed).index, many)
                self.caught(NoLine, shop.do, deed)
            shop.do(PUT)

    def test_a_list_is_played_whole_or_not_at_all(self):
        shop = Shop(SHOWING, BOTH)
        shop.do_all([PUT, ("price", "tea", 5), FAIL])
        for deeds, error, index in (
            ([("put", "milk", 1), ("alter", "tea", 0), ("alter", "tea", 1), ("put", "jam", 1)], NoLine, 5),
            ([("price", "tea", 1), BUY, ("put", "jam", 1)], NoItem, 5),
            ([BUY, ("alter", "tea", 1)], NoLine, 4),
            ([BUY, ("alter", "tea", 1), ("look", 1)], NoDeed, 5),
        ):
            told = self.unchanged(shop, shop.do_all, deeds)
            self.assertEqual((type(told), told.index), (error, index))
        # The payment that failed still counts, and the list that was refused is no change that can be taken back.
        self.assertEqual(shop.do_all([("price", "tea", 6), ("look",)])[1], ([("tea", 2, 6)], ["tea"], None))
        shop.undo(), shop.undo()
        self.assertEqual(len(shop), 0)
        self.caught(NothingToUndo, shop.undo)

    def test_indexes_behind_undos(self):
        shop = Shop(Book(), BOTH)
        shop.do_all([PUT, ("look",), ("back",)])
        shop.do(("look",))
        self.assertEqual(self.unchanged(shop, shop.do, None).index, 4)
        shop.undo()
        self.assertEqual(self.unchanged(shop, shop.do, None).index, 3)
        self.assertEqual(self.unchanged(shop, shop.do_all, None).index, 3)
        self.assertEqual(self.unchanged(shop, shop.do_all, [("look",), ("put", "jam", 1)]).index, 4)
        shop.change(SHOWING)
        self.assertEqual(self.unchanged(shop, shop.do, ("alter", "milk", 1)).index, 3)
        shop.undo(), shop.undo()
        self.assertEqual(self.unchanged(shop, shop.do, ("alter", "tea", 1)).index, 0)
        self.assertEqual(self.unchanged(shop, shop.do_all, [("look",), ("alter", "tea", 1)]).index, 1)


class TestUndo(ShopCase):
    def test_nothing_to_undo(self):
        shop = Shop(Book(), BOTH)
        self.caught(NothingToUndo, shop.undo)
        self.assertIs(type(self.unchanged(shop, shop.undo)), NothingToUndo)
        shop.do(PUT)
        self.assertIsNone(shop.undo())
        self.caught(NothingToUndo, shop.undo)

    def test_each_kind_of_change_is_taken_back(self):
        shop = Shop(SHOWING, BOTH)
        other = Book(pay=("take",))
        changes = [lambda: shop.do(PUT), lambda: shop.do_all([("price", "tea", 9), ("look",), FAIL]),
                   lambda: shop.do_all([]), lambda: shop.change(other), lambda: shop.change(Book(pay=("take",))),
                   lambda: setattr(shop, "book", SHOWING), lambda: setattr(shop, "book", SHOWING),
                   lambda: shop.do(BUY), lambda: shop.do(("price", "tea", 9)), lambda: shop.do(("look",))]
        stood = []
        for change in changes:
            stood.append(copy.deepcopy(seen(shop, ("tea", "milk"))))
            change()
        for old in reversed(stood):
            self.assertIsNone(shop.undo())
            self.assertEqual(seen(shop, ("tea", "milk")), old)
        self.caught(NothingToUndo, shop.undo)

    def test_undo_of_a_payment(self):
        shop = Shop(Book(put=("ask",), pay=("take",), again=("ask",)), BOTH)
        shop.do_all([PUT, ("put", "milk", 1), ("price", "tea", 5)])
        shop.do(FAIL)
        shop.do(BUY)
        self.assertEqual((shop.paid(), shop.asked, shop.lines()), (17, 3, []))
        shop.undo()
        self.assertEqual((shop.paid(), shop.asked, shop.total), (0, 2, 17))
        # The payment that failed is the last deed of the person again, and ahead of it none is.
        self.assertEqual(shop.do(FAIL)[1], ["tea"])
        shop.undo(), shop.undo()
        self.assertEqual(shop.do(FAIL), ([("tea", 2, 4), ("milk", 1, 7)], [], None))

    def test_a_call_that_raised_is_not_taken_back(self):
        shop = Shop(Book(), BOTH)
        shop.do(PUT)
        for call, bad in ((shop.do, None), (shop.do_all, [PUT, None]), (shop.do, ("put", "jam", 1))):
            self.unchanged(shop, call, bad)
        shop.undo()
        self.assertEqual(len(shop), 0)

    def test_telling_is_no_change(self):
        shop = Shop(Book(), BOTH)
        shop.do(PUT)
        shop.lines(), shop.price("tea"), shop.paid(), len(shop), "tea" in shop, shop.total, shop.asked, shop.book
        shop.undo()
        self.assertEqual(shop.lines(), [])


class TestChange(ShopCase):
    def test_the_other_book_counts_from_now_on(self):
        shop = Shop(Book(put=("ask",)), BOTH)
        shop.do(PUT)
        shop.change(Book(put=("take", "show"), look=("show",)))
        shop.do_all([("price", "tea", 9), ("put", "milk", 1)])
        self.assertEqual(shop.lines(), [("tea", 2, 4, 4), ("milk", 1, 7, 7)])
        self.assertEqual(shop.do(("put", "tea", 1)), ([("tea", 3, 9), ("milk", 1, 7)], [], None))
        self.assertEqual((shop.asked, shop.book), (1, Book(put=("take", "show"), look=("show",))))

    def test_a_payment_that_did_not_go_through_stays(self):
        for assigned in (False, True):
            shop = Shop(Book(), BOTH)
            shop.do_all([PUT, FAIL])
            if assigned:
                shop.book = Book(pay=("take",), again=("show",))
            else:
                self.assertIsNone(shop.change(Book(pay=("take",), again=("show",))))
            shop.do(("price", "tea", 9))
            self.assertEqual(shop.do(BUY), ([("tea", 2, 4)], [], [("tea", 2, 4)]))

    def test_the_book_is_the_one_that_was_passed(self):
        book = Book(put=("ask",))
        shop = Shop(book, BOTH)
        self.assertEqual(shop.book, book)
        for other in (SHOWING, Book(), book):
            shop.book = other
            self.assertEqual(shop.book, other)
            self.assertEqual(len(shop), 0)


class TestManyCalls(ShopCase):
    def check_calls(self, choose, many):
        book = random_book(choose, Book)
        items = ("tea", "milk", "jam")[:choose.randint(1, 3)]
        prices = tuple((item, choose.randint(0, 3)) for item in items)
        shop, model = Shop(book, prices), Model(book, prices)
        for _ in range(many):
            self.one_call(choose, shop, model, items)
            self.assertEqual(seen(shop, items), model.seen())

    def one_call(self, choose, shop, model, items):
        kind = choose.choice(("do", "do", "do", "all", "none", "undo", "undo", "change", "assign", "wrong"))
        deeds = random_history(choose, items, range(5), choose.randint(1, 6))[1]
        if kind == "do":
            deeds = deeds[:1]
        if kind in ("do", "all", "none"):
            deeds = [] if kind == "none" else deeds
            before = len(model.told().reports)
            model.calls.append(list(deeds))
            told = shop.do(deeds[0]) if kind == "do" else shop.do_all(deeds)
            self.assertEqual([told] if kind == "do" else told, model.told().reports[before:])
        elif kind == "undo" and model.calls:
            model.calls.pop()
            shop.undo()
        elif kind == "undo":
            self.caught(NothingToUndo, shop.undo)
        elif kind == "wrong":
            self.caught(NoItem, shop.do_all, [*deeds, ("put", "oil", 1)])
        else:
            other = choose.choice((shop.book, random_book(choose, Book)))
            model.calls.append(other)
            if kind == "change":
                shop.change(other)
            else:
                shop.book = other

    def test_random_calls(self):
        choose = random.Random(51)
        for _ in range(60):
            self.check_calls(choose, 40)

    def test_undos_to_the_beginning_and_one_more(self):
        choose = random.Random(52)
        for _ in range(20):
            shop = Shop(random_book(choose, Book), BOTH)
            start = seen(shop, ("tea", "milk"))
            many = choose.randint(0, 150)
            for _ in range(many):
                if choose.random() < 0.3:
                    shop.change(random_book(choose, Book))
                else:
                    shop.do_all(random_history(choose, ("tea", "milk"), range(4), choose.randint(0, 3))[1])
            for _ in range(many):
                shop.undo()
            self.assertEqual(seen(shop, ("tea", "milk")), start)
            self.caught(NothingToUndo, shop.undo)

    def test_a_shop_tells_what_play_tells(self):
        choose = random.Random(53)
        for _ in range(100):
            book = random_book(choose, Book)
            prices, deeds = random_history(choose, ("a", "b", "c"), range(4), 60)
            reports = play(book, prices, deeds)
            one, all_at_once = Shop(book, prices), Shop(book, prices)
            self.assertEqual([one.do(deed) for deed in deeds], reports)
            self.assertEqual(all_at_once.do_all(deeds), reports)
            self.assertEqual(seen(one, "abc"), seen(all_at_once, "abc"))
            asked = [item for told in reports if told for item in told[1]]
            self.assertEqual(one.asked, len(asked))

    def test_400_calls(self):
        shop = Shop(SHOWING, BOTH)
        for at in range(200):
            shop.do(("put", "tea", 1) if at % 2 else ("look",))
        self.assertEqual((len(shop), shop.lines()), (200, [("tea", 100, 4, 4)]))
        for _ in range(200):
            shop.undo()
        self.assertEqual(len(shop), 0)


if __name__ == "__main__":
    unittest.main()
