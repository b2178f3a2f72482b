"""[4] and [5]: actions, rules, doors and books."""

import unittest
from unittest import mock

from lastshown.books import Book
from lastshown.errors import NoDoor, NoDoors, NoRule
from tests.oracle import ACTIONS, DOORS
from tests.strange import STRANGE

FULL = ("take", "least", "last", "show", "ask", "take")
BAD_RULES = (
    None, True, False, 0, 1, 1.5, "", "take", "show", b"take", [], ["take"], {}, {"take": 1}, set(), range(0),
    ("Take",), ("take ",), ("",), ("put",), ("take", "shows"), ("take", None), (None,), (True,), (0,), (("take",),),
    (["take"],), (b"take",), ("take", []), FULL + ("ask",), ("ask",) * 7, ("ask",) * 300, object(),
)


class TestBook(unittest.TestCase):
    def caught(self, error, call, *args, **more):
        with self.assertRaises(error) as told:
            call(*args, **more)
        self.assertIs(type(told.exception), error)
        return told.exception

    def test_the_empty_book_has_six_rules_of_none(self):
        self.assertEqual(Book().rules(), ((),) * 6)
        for door in DOORS:
            self.assertEqual(Book().rule(door), ())

    def test_rules_by_position_and_by_name(self):
        rules = (("take",), ("least",), ("last",), ("show",), ("ask",), FULL)
        self.assertEqual(Book(*rules).rules(), rules)
        self.assertEqual(Book(**dict(zip(DOORS, rules))).rules(), rules)
        for door, rule in zip(DOORS, rules):
            self.assertEqual(Book(*rules).rule(door), rule)
            self.assertEqual(Book(*rules).rule(door=door), rule)
        self.assertIs(type(Book(*rules).rules()), tuple)

    def test_each_action_and_six_of_them_make_a_rule(self):
        for door in DOORS:
            for action in ACTIONS:
                for many in range(7):
                    self.assertEqual(Book(**{door: (action,) * many}).rule(door), (action,) * many)

    def test_no_rule_at_each_door(self):
        for door in DOORS:
            for bad in BAD_RULES:
                self.assertEqual(self.caught(NoRule, Book, **{door: bad}).door, door)

    def test_no_rule_tells_the_first_door_of_the_signature(self):
        for at, door in enumerate(DOORS):
            self.assertEqual(self.caught(NoRule, Book, *([()] * at + [["take"]] * (6 - at))).door, door)
        self.assertEqual(self.caught(NoRule, Book, again=1, pay=2, back=3).door, "back")

    def test_strange_values_are_no_rules(self):
        for bad in STRANGE:
            self.assertEqual(self.caught(NoRule, Book, look=bad).door, "look")

    def test_no_door(self):
        for bad in STRANGE:
            self.assertIs(self.caught(NoDoor, Book().rule, bad).door, bad)
        for bad in ("PUT", "price", "fail", "door", "putlook", "pu", "agai"):
            self.assertEqual(self.caught(NoDoor, Book().rule, bad).door, bad)

    def test_with_rule_gives_another_book(self):
        book = Book(("take",), ("show",), (), (), ("ask",), ())
        for at, door in enumerate(DOORS):
            rules = [*book.rules()]
            rules[at] = FULL
            self.assertEqual(book.with_rule(door, FULL).rules(), tuple(rules))
            self.assertEqual(book.with_rule(door=door, rule=()).rule(door), ())
        self.assertEqual(book, Book(("take",), ("show",), (), (), ("ask",), ()))

    def test_with_rule_looks_at_the_door_first(self):
        book = Book(pay=("ask",))
        for bad in STRANGE:
            self.assertIs(self.caught(NoDoor, book.with_rule, bad, None).door, bad)
            self.assertIs(self.caught(NoDoor, book.with_rule, bad, ("take",)).door, bad)
        for door in DOORS:
            for bad in BAD_RULES:
                self.assertEqual(self.caught(NoRule, book.with_rule, door, bad).door, door)
        self.assertEqual(book, Book(pay=("ask",)))

    def test_asking_puts_an_ask_at_the_end(self):
        book = Book(put=("take",), pay=("take", "show"), again=("ask",))
        self.assertEqual(book.asking(("again", "put")).rules(), (
            ("take", "ask"), (), (), (), ("take", "show"), ("ask", "ask")))
        self.assertEqual(book.asking(doors=DOORS).rules(), (
            ("take", "ask"), ("ask",), ("ask",), ("ask",), ("take", "show", "ask"), ("ask", "ask")))
        self.assertEqual(book.asking(()), book)
        self.assertEqual(Book(look=FULL[:5]).asking(("look",)).rule("look"), FULL[:5] + ("ask",))
        self.assertEqual(book.rule("again"), ("ask",))

    def test_no_doors(self):
        wrong = [*STRANGE, ["put"], "put", ("put", "look", "put"), ("put", "door"), ("put", None), ("put", True), ("put", []),
                 (["put"],), DOORS + ("put",), {"put": "look"}, (("put", "look"),)]
        for bad in wrong:
            self.caught(NoDoors, Book().asking, bad)

    def test_no_doors_comes_ahead_of_no_rule(self):
        self.caught(NoDoors, Book(put=FULL).asking, ("put", "put"))
        self.caught(NoDoors, Book(put=FULL).asking, ["put"])

    def test_asking_where_no_action_has_room(self):
        book = Book(put=FULL, alter=FULL, pay=FULL)
        self.assertEqual(self.caught(NoRule, book.asking, ("pay", "look", "alter")).door, "alter")
        self.assertEqual(self.caught(NoRule, book.asking, ("pay", "alter", "put")).door, "put")
        self.assertEqual(self.caught(NoRule, book.asking, ("again", "pay")).door, "pay")
        self.assertEqual(book.asking(("again", "look")).rule("again"), ("ask",))

    def test_books_are_equal_if_all_rules_are(self):
        self.assertTrue(Book() == Book())
        self.assertFalse(Book() != Book())
        for door in DOORS:
            self.assertTrue(Book(**{door: FULL}) == Book().with_rule(door, FULL))
            self.assertFalse(Book(**{door: FULL}) == Book())
            self.assertTrue(Book(**{door: ("take", "show")}) != Book(**{door: ("show", "take")}))
        self.assertFalse(Book(put=("take",)) == Book(look=("take",)))

    def test_a_book_is_equal_to_nothing_else(self):
        book = Book(put=("take",))
        for other in (book.rules(), list(book.rules()), None, True, 1, "put", {}, object(), mock.ANY):
            self.assertFalse(book == other)
            self.assertTrue(book != other)

    def test_methods_are_defined_in_the_class(self):
        for name in ("__init__", "__eq__", "rule", "rules", "with_rule", "asking"):
            self.assertIn(name, vars(Book))


if __name__ == "__main__":
    unittest.main()
