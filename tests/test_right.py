"""[13], [15] and [16]: books that are right, the needless actions, and the fewest asks."""

import random
import unittest
from itertools import combinations, product
from unittest import mock

from lastshown.books import Book
from lastshown.errors import NoRule, NotRight
from lastshown.plays import faults
from lastshown.right import few_doors, first_fault, fewest_asks, is_right, needless
from lastshown.rules import carried_out
from tests.brute import all_deeds, fewest_to_fault
from tests.oracle import ACTIONS, DOORS, Told, random_book, random_history

MOST = 10 ** 12
AMOUNTS = (1, 2, 3, 4, 5)
LATE = ("take", "last", "show", "take")
RIGHT = (
    Book(pay=("show",), again=("show",)),
    Book(pay=("ask",), again=("ask",)),
    Book(pay=("take", "ask"), again=("last",)),
    Book(put=("show",), again=()),
    Book(put=("show",), look=("last", "least", "show"), pay=("last",)),
    Book(put=("show",), look=("take",), alter=("least",), back=("take",), pay=("last",), again=("last",)),
    Book(put=("show",), look=("take",), pay=("least", "last", "take", "last", "take", "ask"), again=("last",)),
)
# Each book with the fewest deeds of a fault.
WRONG = (
    (Book(), 2),
    (Book(look=("show",), alter=("show",), back=("show",)), 2),
    (Book(put=("show",), pay=("take",)), 3),
    (Book(put=("show",), look=("take",)), 4),
    (Book(put=("show",), back=("least",), pay=("least", "last", "least"), again=("last",)), 3),
    (Book(pay=("show",), again=("take",)), 4),
    (Book(put=("show",), look=("take", "show"), alter=("take",)), 4),
    (Book(put=("ask",), back=("take",)), 4),
    (Book(pay=LATE, again=("last",)), 5),
    (Book(look=("last",), back=("least",), pay=LATE, again=("take", "show")), 5),
)


def quiet_book(choose):
    """A random book of which few have an early fault."""
    quiet = ((), (), ("take",), ("last",), ("least",), ("show",), ("take", "show"), ("last", "least"))
    last = (("show",), ("ask",), ("take", "ask"), ("last",), (), LATE, ("take", "last", "show", "least"))
    return Book(*[choose.choice(quiet) for _ in range(4)], *[choose.choice(last) for _ in range(2)])


def books(seed, many):
    choose = random.Random(seed)
    for at in range(many):
        yield (quiet_book(choose), random_book(choose, Book, 2), random_book(choose, Book, 6))[at % 3]


def fewest_deeds(book, items, amounts):
    """How few deeds have a fault if each item can have each amount."""
    return fewest_to_fault(book, {item: tuple(amounts) for item in items})


def histories(items, amounts, many):
    """All histories of so many deeds that end with a payment that is done; some cannot be played."""
    for choice in product(amounts, repeat=len(items)):
        for deeds in product(all_deeds({item: amounts for item in items}), repeat=many - 1):
            yield tuple(zip(items, choice)), [*deeds, ("pay", True)]


def can_be_played(deeds):
    held = []
    for deed in deeds:
        if deed[0] == "alter" and deed[1] not in held:
            return False
        if deed[0] == "put":
            held.append(deed[1])
        if deed[0] == "alter" and deed[2] == 0:
            held = [item for item in held if item != deed[1]]
        if deed == ("pay", True):
            held = []
    return True


class TestFirstFault(unittest.TestCase):
    def check_told(self, book, told):
        """It can be played, has faults, and has the kinds that the interface lists."""
        self.assertIs(type(told), tuple)
        prices, deeds = told
        self.assertIs(type(deeds), list)
        self.assertNotEqual(faults(book, prices, deeds), [])
        self.assertEqual(faults(book, prices, deeds), Told(book, prices, deeds).faults)

    def test_right_books(self):
        for book in RIGHT:
            self.assertIsNone(first_fault(book))
            self.assertIs(is_right(book), True)

    def test_wrong_books(self):
        for book, fewest in WRONG:
            self.check_told(book, first_fault(book))
            self.assertEqual(len(first_fault(book)[1]), fewest)
            self.assertIs(is_right(book), False)

    def test_by_name(self):
        self.assertEqual(first_fault(book=Book()), first_fault(Book()))
        self.assertIs(is_right(book=Book()), False)

    def test_each_list_is_new(self):
        told = first_fault(Book())
        told[1].append("x")
        self.check_told(Book(), first_fault(Book()))

    def test_the_book_stays_as_it_is(self):
        for book in RIGHT:
            rules = book.rules()
            first_fault(book), is_right(book), needless(book)
            self.assertEqual(book.rules(), rules)

    def test_an_ask_behind_each_payment_is_always_right(self):
        choose = random.Random(4)
        for _ in range(100):
            self.assertTrue(is_right(random_book(choose, Book, 5).asking(("pay", "again"))))

    def test_rules_of_six_actions(self):
        for rule in (("take",) * 5 + ("show",), ("show", "take") * 3, ("take", "show") * 3):
            self.assertTrue(is_right(Book(*[rule] * 6)))
        for rule in (("take",) * 6, ("last",) * 6, ("show",) + ("take",) * 5, ("take", "last", "show") + ("least",) * 3):
            self.assertFalse(is_right(Book(*[rule] * 6)))

    def test_all_books_with_one_action_behind_each_payment(self):
        for put, look, pay, again in product([(), *[(action,) for action in ACTIONS]], repeat=4):
            book = Book(put=put, look=look, pay=pay, again=again)
            told = first_fault(book)
            self.assertEqual(told and len(told[1]), fewest_deeds(book, ("a",), (1, 2, 3)))

    def test_what_is_told_of_many_books_is_shortest(self):
        lengths = []
        for book in books(5, 450):
            told = first_fault(book)
            fewest = fewest_deeds(book, ("a",), AMOUNTS)
            lengths.append(fewest)
            self.assertEqual(is_right(book), fewest is None)
            if fewest is None:
                self.assertIsNone(told)
            else:
                self.check_told(book, told)
                self.assertEqual(len(told[1]), fewest)
        self.assertEqual(sorted({length for length in lengths if length}), [2, 3, 4, 5])
        self.assertGreater(lengths.count(None), 50)

    def test_no_history_of_two_items_is_shorter(self):
        for book in [*RIGHT, *[book for book, _ in WRONG], *books(6, 60)]:
            told = first_fault(book)
            self.assertEqual(told and len(told[1]), fewest_deeds(book, ("a", "b"), (1, 2)))
        for book in [book for book, _ in WRONG]:
            self.assertEqual(len(first_fault(book)[1]), fewest_deeds(book, ("a", "b"), (1, 2, 3)))

    def test_no_shorter_history_has_faults(self):
        for book in [*[book for book, _ in WRONG], *books(7, 30)]:
            told = first_fault(book)
            for many in range(1, min(len(told[1]), 5) if told else 4):
                for prices, deeds in histories(("a",), (1, 2, 3), many):
                    if can_be_played(deeds):
                        self.assertEqual(faults(book, prices, deeds), [])
        for book, fewest in WRONG:
            for many in range(1, min(fewest, 4)):
                for prices, deeds in histories(("a", "b"), (1, 2), many):
                    if can_be_played(deeds):
                        self.assertEqual(faults(book, prices, deeds), [])

    def test_books_told_right_have_no_faults(self):
        choose = random.Random(8)
        found = [*RIGHT, *[book for book in books(9, 600) if is_right(book)]]
        self.assertGreater(len(found), 100)
        for book in found:
            for amounts in ((1, 2, 3), range(100), (0, 1, MOST - 1, MOST)):
                items = ("a", "tea", "milk", "jam", "oil", "abcdefgh")[:choose.randint(2, 6)]
                prices, deeds = random_history(choose, items, amounts, 200)
                self.assertEqual(faults(book, prices, deeds), [])

    def test_books_told_wrong_have_faults_at_the_ends_of_the_amounts(self):
        for book, fewest in WRONG:
            self.assertEqual(fewest_deeds(book, ("a",), (0, MOST - 1, MOST)), fewest)


class TestNeedless(unittest.TestCase):
    def test_not_right(self):
        for book, _ in WRONG:
            with self.assertRaises(NotRight) as caught:
                needless(book)
            self.assertIs(type(caught.exception), NotRight)

    def test_nothing_is_needless(self):
        self.assertEqual(needless(Book(put=("show",))), [])
        self.assertEqual(needless(Book(pay=("ask",))), [])

    def test_each_action_alone(self):
        self.assertEqual(needless(Book(pay=("show", "ask"), again=("take", "ask"))), [
            ("pay", 0), ("pay", 1), ("again", 0)])
        self.assertEqual(needless(Book(pay=("take", "take", "ask"), again=("last",))), [
            ("pay", 0), ("pay", 1), ("again", 0)])
        self.assertEqual(needless(book=Book(put=("show",), look=("take", "show"))), [("look", 0)])
        self.assertEqual(needless(Book(put=("show",), look=("take", "show"), pay=("last",))), [
            ("look", 0), ("look", 1), ("pay", 0)])

    def test_the_order_of_doors_and_indexes(self):
        book = Book(("take",), ("least",), ("last",), ("take",), ("take", "take", "show", "show"), ("show", "show"))
        self.assertEqual(needless(book), [
            ("put", 0), ("look", 0), ("alter", 0), ("back", 0), ("pay", 0), ("pay", 1), ("pay", 2), ("pay", 3),
            ("again", 0), ("again", 1)])

    def test_six_actions(self):
        book = Book(put=("show",) * 6)
        self.assertEqual(needless(book), [("put", index) for index in range(6)])

    def test_a_book_of_36_actions(self):
        book = Book(
            ("take", "take", "take", "least", "least", "least"), ("take", "show", "show", "last", "take", "show"),
            ("show", "last", "ask", "show", "last", "show"), ("show", "take", "least", "least", "least", "take"),
            ("last", "show", "show", "least", "ask", "ask"), ("take", "last", "least", "last", "least", "show"))
        every = [(door, index) for door in DOORS for index in range(6)]
        with mock.patch("lastshown.right.carried_out", wraps=carried_out) as work:
            self.assertEqual(needless(book), every[:-1])
        # A line stands in 16 ways at most: no rule, whole or without an action, is carried out more often.
        self.assertLess(work.call_count, 17 * (6 + 36))

    def test_is_right_and_first_fault_without_each_action(self):
        choose = random.Random(12)
        for _ in range(12):
            book = random_book(choose, Book, 6)
            for door in DOORS:
                for index in range(len(book.rule(door))):
                    less = book.with_rule(door, book.rule(door)[:index] + book.rule(door)[index + 1:])
                    told = first_fault(less)
                    self.assertEqual(is_right(less), told is None)
                    self.assertEqual(told and len(told[1]), fewest_deeds(less, ("a",), (1, 2, 3)))

    def test_many_books(self):
        found = [book for book in books(10, 200) if is_right(book)]
        self.assertGreater(len(found), 30)
        for book in found:
            expected = []
            for door in DOORS:
                rule = book.rule(door)
                for index in range(len(rule)):
                    less = book.with_rule(door, tuple(part for at, part in enumerate(rule) if at != index))
                    if fewest_deeds(less, ("a",), (1, 2, 3)) is None:
                        expected.append((door, index))
            self.assertEqual(needless(book), expected)

    def test_each_list_is_new(self):
        book = Book(put=("show",), pay=("last",))
        needless(book).append("x")
        self.assertEqual(needless(book), [("pay", 0)])


class TestFewestAsks(unittest.TestCase):
    full = ("take", "show") * 3

    def test_a_right_book_needs_none(self):
        for book in RIGHT:
            if all(len(rule) < 6 for rule in book.rules()):
                self.assertEqual(fewest_asks(book), ())

    def test_one_door(self):
        self.assertEqual(fewest_asks(Book()), ("put",))
        self.assertEqual(fewest_asks(Book(put=("show",), look=("take",))), ("look",))
        self.assertEqual(fewest_asks(Book(put=("show",), alter=("take",))), ("alter",))
        self.assertEqual(fewest_asks(Book(put=("show",), back=("take",))), ("back",))
        self.assertEqual(fewest_asks(Book(put=("show",), pay=("take",))), ("pay",))
        self.assertEqual(fewest_asks(book=Book(pay=("show",), again=("take",))), ("again",))

    def test_two_doors(self):
        self.assertEqual(fewest_asks(Book(again=("take",))), ("put", "again"))
        self.assertEqual(fewest_asks(Book(put=("show",), look=("take",), again=("least",))), ("look", "again"))
        self.assertEqual(fewest_asks(Book(put=("show",), alter=("take",), again=("take",))), ("alter", "again"))
        self.assertEqual(fewest_asks(Book(put=("show",), back=("least",), again=("take",))), ("back", "again"))
        self.assertEqual(fewest_asks(Book(pay=("take",), again=("take",))), ("pay", "again"))

    def test_the_first_of_several(self):
        for book, many in ((Book(), 1), (Book(again=("take",)), 2)):
            found = [doors for doors in combinations(DOORS, many) if is_right(book.asking(doors))]
            self.assertGreater(len(found), 1)
            self.assertEqual(fewest_asks(book), found[0])

    def test_all_choices_of_at_most_two_doors_in_order(self):
        self.assertEqual(few_doors(), [doors for many in range(3) for doors in combinations(DOORS, many)])

    def test_no_rule(self):
        for at, door in enumerate(DOORS):
            with self.assertRaises(NoRule) as caught:
                fewest_asks(Book(*[()] * at, *[self.full] * (6 - at)))
            self.assertEqual(caught.exception.door, door)
        with self.assertRaises(NoRule) as caught:
            fewest_asks(Book(put=("show",), alter=self.full, pay=("show",), again=self.full))
        self.assertEqual(caught.exception.door, "alter")

    def test_five_actions_have_room_for_an_ask(self):
        self.assertEqual(fewest_asks(Book(pay=("take",) * 5, again=("least",) * 5)), ("pay", "again"))
        self.assertEqual(fewest_asks(Book(pay=("take",) * 5, again=("last",) * 5)), ("pay",))

    def test_many_books(self):
        lengths = []
        for book in books(11, 150):
            if any(len(rule) == 6 for rule in book.rules()):
                continue
            choices = [doors for many in range(7) for doors in combinations(DOORS, many)]
            expected = next(doors for doors in choices if fewest_deeds(book.asking(doors), ("a",), (1, 2, 3)) is None)
            self.assertEqual(fewest_asks(book), expected)
            lengths.append(len(expected))
        self.assertEqual(sorted(set(lengths)), [0, 1, 2])


if __name__ == "__main__":
    unittest.main()
