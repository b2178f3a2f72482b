"""[14]: books that are plain, and the shortest mixtures."""

import random
import unittest
from itertools import combinations, product

from lastshown.books import Book
from lastshown.mixing import EMPTY, MixtureSearch, first_mixture, is_plain, shows_at_once
from lastshown.plays import mixtures, play
from lastshown.searches import fewest
from tests.brute import fewest_to_mixture
from tests.oracle import ACTIONS, Told, random_book, random_history

MOST = 10 ** 12
TWO = {"a": (1, 2), "b": (1, 2)}
THREE = {"a": (1, 2, 3), "b": (1, 2, 3)}
ANOTHER = {"a": (1, 2), "b": (1, 2), "c": (1,)}
FAIL = ("pay", False)
BUY = ("pay", True)
TAKE = ("take", "show")
# Rules that show nothing, and rules that show; what is kept or shown depends on more and more.
QUIET = (
    (), ("take",), ("least",), ("last",), ("take", "last"), ("least", "last"), ("last", "least"),
    ("take", "last", "least"),
)
LOUD = tuple((*quiet, "show", *more) for quiet in QUIET for more in ((), ("take",), ("least",)))

PLAIN = (
    Book(),
    Book(put=("take",), look=("least",), alter=("last",), back=("take", "least"), pay=("least",), again=("last",)),
    Book(look=TAKE),
    Book(put=("least",), look=TAKE, alter=("take",), back=("take", "ask", "last"), pay=TAKE, again=("take", "ask")),
    Book(look=("show", "take", "show"), again=("last", "take", "show", "least")),
    Book(pay=TAKE, again=("last", "show", "take")),
    Book(look=TAKE, pay=("take", "show"), again=("last", "ask")),
    Book(look=TAKE, back=("least",), pay=("take",), again=("show", "take")),
    Book(put=("take",), alter=("least",), pay=("take",), again=("ask",)),
    Book(pay=("last", "take"), again=("show", "last")),
)
# Each book with the fewest deeds of a mixture.
MIXED = (
    (Book(put=("show",)), 4),
    (Book(put=("take", "last", "ask")), 4),
    (Book(put=TAKE, look=TAKE, alter=TAKE, back=TAKE, pay=TAKE, again=TAKE), 4),
    (Book(look=("show",)), 5),
    (Book(back=("least", "show")), 5),
    (Book(pay=("ask",)), 5),
    (Book(alter=("show",)), 6),
    (Book(alter=TAKE), 6),
    (Book(look=("take", "last", "show")), 6),
    (Book(pay=("take", "last", "show"), again=TAKE), 6),
)
# Books of which the mixture shows only behind a payment that failed.
FAILING = (
    (Book(again=("show",)), 6),
    (Book(look=TAKE, back=TAKE, again=("least", "ask")), 6),
    (Book(pay=("take",), again=("least", "show")), 6),
    (Book(pay=TAKE, again=("last", "least", "show")), 6),
    (Book(pay=("take",), again=("show", "least")), 7),
    (Book(pay=TAKE, again=("show", "least")), 7),
    (Book(look=TAKE, again=("take", "last", "show")), 7),
    (Book(again=("take", "last", "show")), 8),
    (Book(pay=("take",), again=("last", "show")), 8),
    (Book(look=("take",), back=("least",), again=("take", "last", "ask")), 8),
)


def late_book(choose):
    """A random book that shows no price but the present one, unless a payment failed."""
    present = (*QUIET, TAKE, TAKE, TAKE)
    put, alter = choose.choice(QUIET), choose.choice(QUIET)
    look, back, pay = [choose.choice(present) for _ in range(3)]
    return Book(put, look, alter, back, pay, choose.choice(LOUD))


def books(seed, many):
    choose = random.Random(seed)
    for at in range(many):
        yield (late_book(choose), random_book(choose, Book, 1), random_book(choose, Book, 3))[at % 3]


class TestFirstMixture(unittest.TestCase):
    def check_told(self, book, told):
        """It can be played, has a mixture at its end alone, and has the kinds that the interface lists."""
        self.assertIs(type(told), tuple)
        prices, deeds = told
        self.assertIs(type(prices), tuple)
        self.assertIs(type(deeds), list)
        self.assertEqual(mixtures(book, prices, deeds), [len(deeds) - 1])
        self.assertEqual(Told(book, prices, deeds).mixtures, [len(deeds) - 1])

    def test_plain_books(self):
        for book in PLAIN:
            self.assertIsNone(first_mixture(book))
            self.assertIs(is_plain(book), True)
            self.assertIsNone(fewest_to_mixture(book, ANOTHER, 8))

    def test_books_that_are_not_plain(self):
        for book, fewest_deeds in (*MIXED, *FAILING):
            self.check_told(book, first_mixture(book))
            self.assertEqual(len(first_mixture(book)[1]), fewest_deeds)
            self.assertIs(is_plain(book), False)
            self.assertEqual(fewest_to_mixture(book, TWO, 9), fewest_deeds)

    def test_by_name(self):
        self.assertEqual(first_mixture(book=Book(put=("show",))), first_mixture(Book(put=("show",))))
        self.assertIs(is_plain(book=Book()), True)

    def test_each_list_is_new(self):
        book = Book(put=("show",))
        first_mixture(book)[1].append("x")
        self.check_told(book, first_mixture(book))

    def test_the_book_stays_as_it_is(self):
        for book in (*PLAIN, *[book for book, _ in MIXED]):
            rules = book.rules()
            first_mixture(book), is_plain(book)
            self.assertEqual(book.rules(), rules)

    def test_behind_a_payment_that_failed_alone(self):
        for book, _ in FAILING:
            self.assertIsNone(fewest_to_mixture(book, TWO, 9, barred=(FAIL,)))
            self.assertGreaterEqual(first_mixture(book)[1].count(FAIL), 1)

    def test_one_item_alone_has_no_mixture(self):
        for book, _ in (*MIXED, *FAILING):
            self.assertIsNone(fewest_to_mixture(book, {"a": (1, 2, 3)}, 7))
            self.assertGreater(len(first_mixture(book)[0]), 1)

    def test_removals_and_payments_that_are_done_make_no_history_shorter(self):
        removals = (BUY, ("alter", "a", 0), ("alter", "b", 0))
        for book, fewest_deeds in (*MIXED, *FAILING):
            self.assertEqual(fewest_to_mixture(book, TWO, 9, barred=removals), fewest_deeds)

    def test_asking_and_showing_are_the_same(self):
        for book, fewest_deeds in (*MIXED, *FAILING):
            asking = Book(*[tuple("ask" if action == "show" else action for action in rule) for rule in book.rules()])
            self.assertEqual(len(first_mixture(asking)[1]), fewest_deeds)

    def test_rules_of_six_actions(self):
        self.assertTrue(is_plain(Book(*[("last", "least", "take") * 2] * 6)))
        self.assertTrue(is_plain(Book(look=("take", "show") * 3, pay=("take", "show") * 3)))
        self.assertEqual(len(first_mixture(Book(*[("take", "show") * 3] * 6))[1]), 4)
        self.assertEqual(len(first_mixture(Book(look=("last",) * 5 + ("ask",)))[1]), 5)

    def test_all_books_with_one_action_at_four_doors(self):
        few = ((), ("take",), ("show",))
        one = [(), *[(action,) for action in ACTIONS if action != "ask"]]
        for put, look, pay, again in product(few, few, one, one):
            book = Book(put=put, look=look, pay=pay, again=again)
            told = first_mixture(book)
            self.assertEqual(told and len(told[1]), fewest_to_mixture(book, TWO, 9))

    def test_what_is_told_of_many_books_is_shortest(self):
        lengths = []
        for book in books(31, 300):
            told = first_mixture(book)
            lengths.append(told and len(told[1]))
            self.assertEqual(fewest_to_mixture(book, TWO, 10), lengths[-1])
            self.assertEqual(is_plain(book), told is None)
            if told is not None:
                self.check_told(book, told)
        self.assertEqual(sorted({length for length in lengths if length}), [4, 5, 6, 7, 8])
        self.assertGreater(lengths.count(None), 40)

    def test_more_prices_and_a_third_item_make_no_history_shorter(self):
        for book in books(32, 36):
            told = first_mixture(book)
            most = len(told[1]) - 1 if told else 6
            self.assertIsNone(fewest_to_mixture(book, ANOTHER, most))
            self.assertIsNone(fewest_to_mixture(book, THREE, min(most, 4)))
            self.assertIsNone(fewest_to_mixture(book, {item: (1, 2) for item in "abc"}, min(most, 4)))

    def test_books_told_plain_have_no_mixture_in_long_histories(self):
        choose = random.Random(33)
        found = [*PLAIN, *[book for book in books(34, 600) if is_plain(book)]]
        self.assertGreater(len(found), 100)
        for book in found:
            for amounts in ((1, 2), range(100), (0, 1, MOST - 1, MOST)):
                items = ("a", "tea", "milk", "jam", "oil", "abcdefgh")[:choose.randint(2, 6)]
                prices, deeds = random_history(choose, items, amounts, 60)
                self.assertEqual(mixtures(book, prices, deeds), [])

    def test_books_that_are_not_plain_mix_the_highest_amounts_too(self):
        ends = {"a": (0, MOST), "b": (MOST - 1, MOST)}
        for book, fewest_deeds in (*MIXED, *FAILING):
            self.assertEqual(fewest_to_mixture(book, ends, 9), fewest_deeds)

    def test_what_is_told_can_be_played_by_every_book(self):
        for book in books(35, 60):
            told = first_mixture(book)
            if told is not None:
                self.assertEqual(len(play(Book(), *told)), len(told[1]))


class TestSigns(unittest.TestCase):
    """The signs of a plain book are a short way: the search tells the same without them."""

    def test_the_search_finds_nothing_where_the_signs_are(self):
        found = [*PLAIN, *[book for book in books(36, 300) if shows_at_once(book)]]
        self.assertGreater(len(found), 50)
        for book in found:
            self.assertIsNone(fewest(MixtureSearch(book), EMPTY))

    def test_the_search_finds_a_mixture_where_the_signs_are_not(self):
        for book in books(37, 300):
            self.assertEqual(first_mixture(book) is None, shows_at_once(book))

    def test_all_pairs_of_rules_at_the_two_payments(self):
        for (pay, again), look in product(product((*QUIET, TAKE), LOUD), ((), TAKE)):
            book = Book(look=look, pay=pay, again=again)
            self.assertEqual(first_mixture(book) is None, shows_at_once(book))

    def test_three_lines_agree_if_each_two_do(self):
        # Spans of moments: what the search takes from it.
        spans = [(first, last) for first in range(5) for last in range(first, 5)]
        for three in combinations(spans, 3):
            in_pairs = all(max(one[0], two[0]) <= min(one[1], two[1]) for one, two in combinations(three, 2))
            together = max(first for first, _ in three) <= min(last for _, last in three)
            self.assertEqual(in_pairs, together)


if __name__ == "__main__":
    unittest.main()
