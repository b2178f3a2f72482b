"""[21] and [22]: books and histories as texts, there and back."""

import random
import unittest

from lastshown.books import Book
from lastshown.errors import NoDeed, NoPrices, NoText
from lastshown.texts import book_text, history_text, read_book, read_history
from tests.oracle import ACTIONS, DOORS, random_book, random_history
from tests.strange import BAD_DEEDS, BAD_PRICES, STRANGE

MOST = 10 ** 12
TEA = (("tea", 4),)
BOOK = Book(("take", "show"), (), ("ask",), ("least", "last"), ("take",) * 6, ("show",))
BOOK_LINES = ["put: take show", "look:", "alter: ask", "back: least last", "pay: take take take take take take",
              "again: show"]
PRICES = (("tea", 4), ("milk", 0), ("abcdefgh", MOST))
DEEDS = [("price", "tea", 0), ("price", "jam", MOST), ("put", "tea", 1), ("put", "milk", 1000), ("look",),
         ("alter", "tea", 0), ("alter", "a", 1000), ("back",), ("pay", True), ("pay", False)]
LINES = ["prices tea=4 milk=0 abcdefgh=1000000000000", "price tea 0", "price jam 1000000000000", "put tea 1",
         "put milk 1000", "look", "alter tea 0", "alter a 1000", "back", "pay", "fail"]
NO_STRINGS = [value for value in STRANGE if not isinstance(value, str)]
# What makes a right line wrong: blanks, line ends and signs of other kinds.
SPOILT = (" {}", "{} ", "  {}", "{}  ", "\t{}", "{}\t", "{}\r", "{}\x0b", "{}\x0c", "{}\x1c", "{}\x85", "{}\u2028",
          "{}\u00a0", "\ufeff{}", "{}\x00", "{}.", "{},", "{}x", "#{}", "{}\ud800")
# What is no number: signs, zeros ahead, other digits, other ways to write an integer, nothing.
NO_NUMBERS = ("", "-1", "+1", "-0", "00", "01", "0001", "1.0", "1e3", "1_0", "0x1", "0b1", "one", "None", "True", " 1", "1 ",
              "\u0661", "\u0967", "\uff11", "1\u0660", "\u00b2", "\u00bd", "\u2460", "1,000", "1'000", "9" * 60, "1" * 14,
              str(MOST + 1), "0" * 60, "1\t", "4\r")
NO_ITEMS = ("", "Tea", "TEA", "te-a", "tea1", "abcdefghi", "t\u00e9", "\u00df", "\uff54ea", "te\ta", "_", "=", "1")


class TextCase(unittest.TestCase):
    def wrong(self, call, text, line):
        with self.assertRaises(NoText) as told:
            call(text)
        self.assertIs(type(told.exception), NoText)
        self.assertEqual(told.exception.line, line, text)
        self.assertIs(type(told.exception.line), int)


class TestBookText(TextCase):
    def test_the_text(self):
        self.assertEqual(book_text(BOOK), "\n".join(BOOK_LINES))
        self.assertEqual(book_text(Book()), "put:\nlook:\nalter:\nback:\npay:\nagain:")
        self.assertEqual(book_text(book=BOOK), book_text(BOOK))

    def test_reading(self):
        self.assertEqual(read_book("\n".join(BOOK_LINES)), BOOK)
        self.assertEqual(read_book(text="put:\nlook:\nalter:\nback:\npay:\nagain:"), Book())
        self.assertIs(type(read_book("\n".join(BOOK_LINES))), Book)

    def test_there_and_back(self):
        choose = random.Random(61)
        for _ in range(300):
            book = random_book(choose, Book, 6)
            self.assertEqual(read_book(book_text(book)), book)
            self.assertEqual(read_book(book_text(book)).rules(), book.rules())

    def test_no_string(self):
        for bad in (*NO_STRINGS, BOOK_LINES, tuple(BOOK_LINES), "\n".join(BOOK_LINES).encode(), BOOK.rules()):
            self.wrong(read_book, bad, 0)

    def test_a_wrong_line_at_each_place(self):
        for at, door in enumerate(DOORS):
            wrong = ["", door, f"{door} :", f"{door}:take", f"{door}: ", f"{door}:  take", f"{door}: take  show",
                     f"{door}: take ", f"{door}:\ttake", f"{door}: take\tshow", f"{door}: Take", f"{door}: takes",
                     f"{door}: take,show", f"{door}: put", f"{door}: {door}:", f"{door}::", f"{door}: :", f"{door};",
                     f"{door.upper()}:", f"x{door}:", f"{door}\uff1a", f"{door}: t\u0430ke", "price:", "fail:", ":", " ",
                     f"{door}:" + " ask" * 7, f"{door}:" + " ask" * 300, f"{DOORS[at - 1]}:"]
            wrong += [form.format(BOOK_LINES[at]) for form in SPOILT]
            for line in wrong:
                lines = [*BOOK_LINES[:at], line, *BOOK_LINES[at + 1:]]
                self.wrong(read_book, "\n".join(lines), at)
                self.wrong(read_book, "\n".join([*BOOK_LINES[:at], line]), at)
                self.wrong(read_book, "\n".join([*BOOK_LINES[:at], line, *["x"] * 9]), at)

    def test_too_few_lines(self):
        for many in range(1, 6):
            self.wrong(read_book, "\n".join(BOOK_LINES[:many]), many)
            self.wrong(read_book, "\n".join(BOOK_LINES[:many]) + "\n", many)
        self.wrong(read_book, "", 0)
        self.wrong(read_book, "\n", 0)

    def test_too_many_lines(self):
        for more in ([""], ["", ""], ["put:"], ["again: show"], ["x"] * 3, ["put:", "look:"]):
            self.wrong(read_book, "\n".join([*BOOK_LINES, *more]), 6)

    def test_other_line_ends(self):
        for end in ("\r", "\x0b", "\x0c", "\u2028", " ", ";", "\n\n"):
            self.wrong(read_book, end.join(BOOK_LINES), 1 if end == "\n\n" else 0)
        self.wrong(read_book, "\r\n".join(BOOK_LINES), 0)

    def test_doors_in_another_order(self):
        self.wrong(read_book, "\n".join([BOOK_LINES[1], BOOK_LINES[0], *BOOK_LINES[2:]]), 0)
        self.wrong(read_book, "\n".join([*BOOK_LINES[:4], BOOK_LINES[5], BOOK_LINES[4]]), 4)

    def test_each_number_of_actions(self):
        for action in ACTIONS:
            for many in range(9):
                text = "\n".join([*BOOK_LINES[:5], "again:" + f" {action}" * many])
                if many <= 6:
                    self.assertEqual(read_book(text).rule("again"), (action,) * many)
                else:
                    self.wrong(read_book, text, 5)


class TestHistoryText(TextCase):
    def test_the_text(self):
        self.assertEqual(history_text(PRICES, DEEDS), "\n".join(LINES))
        self.assertEqual(history_text(TEA, []), "prices tea=4")
        self.assertEqual(history_text(deeds=[("look",)], prices=TEA), "prices tea=4\nlook")

    def test_reading(self):
        told = read_history("\n".join(LINES))
        self.assertEqual(told, (PRICES, DEEDS))
        self.assertEqual([type(part) for part in (told, *told, *told[0], *told[1])], [tuple, tuple, list] + [tuple] * 13)
        self.assertIs(told[1][8][1], True)
        self.assertIs(told[1][9][1], False)
        self.assertEqual(read_history(text="prices tea=4"), (TEA, []))

    def test_there_and_back(self):
        choose = random.Random(62)
        for _ in range(200):
            items = ("tea", "milk", "a", "abcdefgh", "jam", "oil")[:choose.randint(1, 6)]
            prices, deeds = random_history(choose, items, (0, 1, 10, 999, MOST - 1, MOST), choose.randint(0, 60))
            self.assertEqual(read_history(history_text(prices, deeds)), (prices, deeds))
            self.assertEqual(history_text(*read_history(history_text(prices, deeds))), history_text(prices, deeds))

    def test_each_list_is_new(self):
        text = "\n".join(LINES)
        read_history(text)[1].append("x")
        self.assertEqual(read_history(text), (PRICES, DEEDS))
        deeds = [*DEEDS]
        history_text(PRICES, deeds)
        self.assertEqual(deeds, DEEDS)

    def test_whether_it_can_be_played_is_not_looked_at(self):
        deeds = [("alter", "tea", 1), ("put", "jam", 1), ("alter", "oil", 0)]
        self.assertEqual(read_history(history_text(TEA, deeds)), (TEA, deeds))

    def test_a_long_history(self):
        deeds = [("price", "abcdefgh", MOST)] * 200
        text = history_text(PRICES, deeds)
        self.assertGreater(len(text), 5000)
        self.assertEqual(read_history(text), (PRICES, deeds))

    def test_no_prices(self):
        for bad in BAD_PRICES:
            for deeds in ([], None, [None]):
                with self.assertRaises(NoPrices):
                    history_text(bad, deeds)

    def test_no_deed(self):
        for bad in BAD_DEEDS:
            for at in (0, 2):
                with self.assertRaises(NoDeed) as told:
                    history_text(TEA, [("look",)] * at + [bad, bad])
                self.assertEqual(told.exception.index, at)
        for bad in (*STRANGE, (), (("look",),), "look", {}):
            if not isinstance(bad, list):
                with self.assertRaises(NoDeed) as told:
                    history_text(TEA, bad)
                self.assertEqual(told.exception.index, 0)

    def test_no_string(self):
        for bad in (*NO_STRINGS, LINES, tuple(LINES), "\n".join(LINES).encode(), (PRICES, DEEDS)):
            self.wrong(read_history, bad, 0)

    def test_wrong_prices(self):
        wrong = ["", " ", "prices", "prices ", "prices tea", "prices tea=", "prices =4", "prices tea 4", "prices tea:4",
                 "price tea=4", "Prices tea=4", "prices: tea=4", "prices  tea=4", " prices tea=4", "prices tea=4 ",
                 "prices tea=4  milk=5", "prices tea=4,milk=5", "prices tea=4 tea=5", "prices tea=4 milk=5 tea=4",
                 "prices tea==4", "prices tea=4=4", "prices tea= 4", "prices tea =4", "prices tea=4 milk", "look", "tea=4",
                 "prices " + " ".join(f"{item}=1" for item in "abcdefg"), "prices\ttea=4", "prices tea=4\tmilk=5",
                 "prices prices", "prices tea=4 look", "prices tea\uff1d4"]
        wrong += [f"prices tea={bad}" for bad in NO_NUMBERS] + [f"prices milk=1 tea={bad}" for bad in NO_NUMBERS]
        wrong += [f"prices {bad}=4" for bad in NO_ITEMS] + [form.format("prices tea=4") for form in SPOILT]
        for line in wrong:
            self.wrong(read_history, line, 0)
            self.wrong(read_history, "\n".join([line, "look"]), 0)
            self.wrong(read_history, "\n".join([line, "wrong"]), 0)

    def test_wrong_deeds_at_each_place(self):
        wrong = ["", " ", "Look", "LOOK", "look ", " look", "looks", "look tea", "look 1", "back 1", "again", "ask", "again 1",
                 "pay True", "pay 1", "pay False", "fail 1", "fails", "pay\tfail", "put", "put tea", "put 1", "put tea 1 1",
                 "put  tea 1", "put tea  1", "put 1 tea", "put,tea,1", "put tea=1", "tea=1", "prices tea=4", "price tea=4",
                 "price tea", "alter tea", "take", "buy tea 1", "put tea 0", "put tea 1001", "alter tea 1001", "put\ttea 1",
                 f"price tea {MOST + 1}", "look tea 1", "pay tea 1", "fail tea 1", "back tea 0", "Put tea 1", "  ", "put  1"]
        for kind in ("price", "put", "alter"):
            wrong += [f"{kind} tea {bad}" for bad in NO_NUMBERS] + [f"{kind} {bad} 1" for bad in NO_ITEMS]
        wrong += [form.format(line) for form in SPOILT for line in ("look", "pay", "fail", "put tea 1", "price tea 4")]
        for line in wrong:
            for at in (0, 1, 4):
                self.wrong(read_history, "\n".join([LINES[0], *["look"] * at, line]), at + 1)
                self.wrong(read_history, "\n".join([LINES[0], *["look"] * at, line, "back", "wrong"]), at + 1)

    def test_a_line_end_at_the_end_is_an_empty_line(self):
        self.wrong(read_history, "prices tea=4\n", 1)
        self.wrong(read_history, "prices tea=4\nlook\n", 2)
        self.wrong(read_history, "\nprices tea=4", 0)
        self.wrong(read_history, "prices tea=4\n\nlook", 1)

    def test_other_line_ends(self):
        for end in ("\r", "\x0b", "\x0c", "\u2028", "\r\n", ";"):
            self.wrong(read_history, end.join(LINES), 0)
        self.wrong(read_history, "prices tea=4\nlook\r\nback", 1)

    def test_amounts_and_numbers_at_their_limits(self):
        for kind, low, high in (("price", 0, MOST), ("put", 1, 1000), ("alter", 0, 1000)):
            for number in (low, low + 1, high - 1, high):
                deed = (kind, "tea", number)
                self.assertEqual(read_history(f"prices tea=0\n{kind} tea {number}"), ((("tea", 0),), [deed]))
                self.assertEqual(history_text((("tea", 0),), [deed]), f"prices tea=0\n{kind} tea {number}")
            for number in (low - 1, high + 1):
                self.wrong(read_history, f"prices tea=0\n{kind} tea {number}", 1)
        for amount in (0, 1, MOST - 1, MOST):
            self.assertEqual(read_history(f"prices abcdefgh={amount}"), ((("abcdefgh", amount),), []))
        for amount in (-1, MOST + 1, 10 ** 13, 10 ** 59):
            self.wrong(read_history, f"prices tea={amount}", 0)

    def test_items_that_are_words_of_the_texts(self):
        prices = (("prices", 1), ("price", 2), ("put", 3), ("look", 4), ("pay", 5), ("fail", 6))
        deeds = [("put", "put", 1), ("price", "price", 1), ("alter", "look", 0), ("put", "fail", 3), ("put", "true", 1)]
        self.assertEqual(read_history(history_text(prices, deeds)), (prices, deeds))


if __name__ == "__main__":
    unittest.main()
