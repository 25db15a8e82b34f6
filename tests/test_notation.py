"""Points 3, 4, 5 and the notation of books."""

import random
import unittest

from lookvoice import errors
from lookvoice.books import Book
from lookvoice.errors import BadLine, VoiceError
from lookvoice.holding import Held
from lookvoice.notation import parse_book, write_book
from samples import GIVEN, RULES, chance_book, error_of, everything_of, full_book, left, orders, sample_book

TEXT = "\n".join([
    "given l r",
    "pair l l r",
    "pair r a",
    "open l r",
    "open r a",
    "close l l",
    "close r a",
    "step l l l l r a",
    "step l r l l l r",
    "step r a l r",
])

# The same rules, with one answer or one follower in each line.
SINGLE_LINES = [
    "pair l l", "pair l r", "pair r a", "open l r", "open r a", "close l l", "close r a",
    "step l l l l", "step l l r a", "step l r l l", "step l r l r", "step r a l r",
]


class Writing(unittest.TestCase):
    def test_no_given_notes(self):
        self.assertEqual(write_book(Book([])), "given")

    def test_no_rules(self):
        self.assertEqual(write_book(Book(["z", "a", "M0"])), "given z a M0")

    def test_given_notes_without_answers(self):
        book = Book(["c", "a", "b"], [("pair", "a", "x")])
        self.assertEqual(write_book(book), "given c a b\npair a x")
        book = Book(["c", "a", "b"], [("pair", "b", "x"), ("pair", "c", "y")])
        self.assertEqual(write_book(book=book), "given c a b\npair c y\npair b x")

    def test_all_kinds_of_rules(self):
        self.assertEqual(write_book(sample_book()), TEXT)

    def test_each_kind_alone(self):
        for rule, line in ((("open", "a", "x"), "open a x"), (("close", "a", "x"), "close a x"),
                           (("step", "a", "x", "a", "x"), "step a x a x")):
            self.assertEqual(write_book(Book(["a"], [("pair", "a", "x"), rule])), "given a\npair a x\n" + line)

    def test_opens_come_before_closes(self):
        rules = [("pair", "b", "x"), ("pair", "a", "x"), ("close", "a", "x"), ("open", "b", "x"), ("close", "b", "x"),
                 ("open", "a", "x")]
        expected = "given a b\npair a x\npair b x\nopen a x\nopen b x\nclose a x\nclose b x"
        self.assertEqual(write_book(Book(["a", "b"], rules)), expected)

    def test_answers_in_the_order_of_pairs(self):
        rules = [("pair", "r", "z"), ("pair", "l", "c"), ("pair", "r", "a"), ("pair", "l", "a"), ("pair", "r", "z"),
                 ("step", "r", "a", "l", "a"), ("step", "r", "a", "r", "a"), ("step", "r", "a", "l", "c"),
                 ("step", "r", "a", "r", "z"), ("open", "l", "a"), ("open", "l", "c")]
        expected = "given r l\npair r z a\npair l c a\nopen l c\nopen l a\nstep r a r z r a l c l a"
        self.assertEqual(write_book(Book(["r", "l"], rules)), expected)

    def test_any_order_of_rules(self):
        rules = [RULES[0], RULES[2], RULES[4], RULES[5], RULES[7], RULES[8]]
        expected = "given l r\npair l l\npair r a\nopen r a\nclose l l\nstep l l l l r a"
        for order in orders(rules):
            self.assertEqual(write_book(Book(GIVEN, order)), expected)

    def test_shuffled_rules(self):
        source = random.Random(4)
        for _ in range(50):
            others = RULES[3:]
            source.shuffle(others)
            self.assertEqual(write_book(Book(GIVEN, RULES[:3] + others)), TEXT)

    def test_while_a_rule_of_each_kind_is_held(self):
        cases = [
            (("pair", "l", "l"), "given l r\npair l r\npair r a\nopen l r\nopen r a\nclose r a\nstep l r l r\n"
                                 "step r a l r"),
            (("open", "l", "r"), TEXT.replace("open l r\n", "")),
            (("close", "r", "a"), TEXT.replace("close r a\n", "")),
            (("step", "l", "r", "l", "l"), TEXT.replace("step l r l l l r", "step l r l r")),
            (("step", "r", "a", "l", "r"), TEXT.replace("\nstep r a l r", "")),
        ]
        book = sample_book()
        for rule, expected in cases:
            with Held(book, rule):
                self.assertEqual(write_book(book), expected)
            self.assertEqual(write_book(book), TEXT)

    def test_while_each_rule_is_held(self):
        book = sample_book()
        for rule in RULES:
            with Held(book, rule):
                self.assertEqual(write_book(book), write_book(Book(GIVEN, left(RULES, [rule]))))

    def test_a_note_whose_answers_are_all_held(self):
        book = sample_book()
        with Held(book, ("pair", "l", "l")), Held(book, ("pair", "l", "r")):
            self.assertEqual(write_book(book), "given l r\npair r a\nopen r a\nclose r a")

    def test_twice(self):
        book = sample_book()
        before = everything_of(book)
        self.assertEqual(write_book(book), write_book(book))
        self.assertEqual(everything_of(book), before)


class Parsing(unittest.TestCase):
    def expect_sample(self, text):
        self.assertEqual(everything_of(parse_book(text)), everything_of(sample_book()))

    def test_the_written_sample(self):
        self.expect_sample(TEXT)
        self.assertIs(parse_book(text=TEXT).__class__, Book)

    def test_only_the_first_line(self):
        for text, given in (("given", ()), ("given a", ("a",)), ("given z a 0 M", ("z", "a", "0", "M"))):
            book = parse_book(text)
            self.assertEqual((book.given, book.rules), (given, []))

    def test_each_form(self):
        head = "given a b\npair a x y\npair b z\n"
        pairs = [("pair", "a", "x"), ("pair", "a", "y"), ("pair", "b", "z")]
        cases = [
            ("open a y", [("open", "a", "y")]),
            ("close b z", [("close", "b", "z")]),
            ("step a x b z", [("step", "a", "x", "b", "z")]),
            ("step b z b z a x", [("step", "b", "z", "a", "x"), ("step", "b", "z", "b", "z")]),
            ("step a y b z a y a x", [("step", "a", "y", "a", "x"), ("step", "a", "y", "a", "y"),
                                      ("step", "a", "y", "b", "z")]),
        ]
        for line, rules in cases:
            book = parse_book(head + line)
            self.assertEqual((book.given, book.rules), (("a", "b"), pairs + rules))

    def test_answers_in_one_line_and_in_several(self):
        for text in ("given a\npair a w x y z", "given a\npair a w\npair a x\npair a y\npair a z",
                     "given a\npair a w x\npair a y z", "given a\npair a w x y\npair a x w z"):
            self.assertEqual(parse_book(text).answers("a"), ["w", "x", "y", "z"])

    def test_the_order_of_answers_is_that_of_the_text(self):
        self.assertEqual(parse_book("given a\npair a z\npair a w y").answers("a"), ["z", "w", "y"])

    def test_one_line_for_each_rule(self):
        self.expect_sample("\n".join(["given l r"] + SINGLE_LINES))

    def test_interleaved_lines(self):
        self.expect_sample("given l r\npair l l\nclose l l\nstep l l l l\npair r a\nstep l l r a\nopen r a\npair l r\n"
                           "step r a l r\nclose r a\nstep l r l l\nopen l r\nstep l r l r")

    def test_shuffled_lines(self):
        source = random.Random(7)
        for _ in range(50):
            lines = SINGLE_LINES[3:]
            source.shuffle(lines)
            self.expect_sample("\n".join(["given l r"] + SINGLE_LINES[:3] + lines))

    def test_repeated_lines(self):
        self.expect_sample("\n".join(["given l r"] + SINGLE_LINES + SINGLE_LINES[::-1]))
        self.expect_sample(TEXT + TEXT[len("given l r"):])

    def test_repeats_within_a_line(self):
        book = parse_book("given a\npair a x y x x y\nstep a x a y a y a x a y")
        self.assertEqual(book.rules, [("pair", "a", "x"), ("pair", "a", "y"), ("step", "a", "x", "a", "x"),
                                      ("step", "a", "x", "a", "y")])
        self.assertEqual(parse_book("given a\npair a w x y z w").answers("a"), ["w", "x", "y", "z"])

    def test_words_of_the_notation_as_notes(self):
        text = "given given pair open step\npair given given pair\npair step step\nopen given pair\nclose step step\n" \
               "step step step given pair"
        book = parse_book(text)
        self.assertEqual(book.given, ("given", "pair", "open", "step"))
        self.assertEqual(write_book(book), text)

    def test_what_was_written(self):
        source = random.Random(12)
        books = [Book([]), Book(["a"]), full_book(), sample_book()]
        books = books + [chance_book(source, "dbca"[:source.randrange(5)], "zxyw", 30) for _ in range(40)]
        for book in books:
            text = write_book(book)
            found = parse_book(text)
            self.assertEqual((found.given, found.pairs, found.rules), (book.given, book.pairs, book.rules))
            self.assertEqual(write_book(found), text)

    def test_what_was_written_while_a_rule_was_held(self):
        book = sample_book()
        for rule in RULES:
            with Held(book, rule):
                found = parse_book(write_book(book))
                self.assertEqual(found.rules, book.rules)
            self.assertEqual(found.rules, left(RULES, [rule]))

    def test_two_books(self):
        first, second = parse_book(TEXT), parse_book(TEXT)
        self.assertIsNot(first, second)
        with Held(first, RULES[0]):
            self.assertEqual(second.rules, RULES)


GOOD = ["given a b", "pair a x y", "pair b x", "open a x", "close b x", "step a x b x a y"]

# Lines that are invalid wherever they stand behind the first line.
BAD_LINES = [
    "", " ", "  ", "\t", "given", "given a b", "given c", "a", "x", "Pair a x", "pairs a x", "Open a x", "end a x",
    "pair", "pair a", "open", "open a", "open a x b", "open a x b x", "close", "close a", "close a x a",
    "step", "step a", "step a x", "step a x a", "step a x a x b", "step a x a x b x a",
    "pair c x", "open c x", "close c x", "step c x a x", "step a x c x", "step a x a x c x",
    "pair A x", "pair x a", "open a z", "close b y", "step b y a x", "step a x b y", "step a x a x b y",
    "pair a x -", "pair a -", "pair a abcdefghi", "pair a x_", "pair a \u00e9", "pair a \u0663", "pair a x.",
    "pair a v w z", "pair a x y v w z",
    "pair  a x", "pair a  x", "pair a x  y", "open  a x", "open a  x", "close a  x", "step a x  b x", "step  a x b x",
    " pair a x", "pair a x ", " open a x", "open a x ", " close a x", "close a x ", " step a x b x", "step a x b x ",
    "pair\ta x", "pair a\tx", "pair a x\t", "\tpair a x", "open a\tx", "open a x\t", "open a x\r", "step a x b\tx",
    "pair a x\r", "pair a x\x0b", "pair a x\x0c", "pair a\u00a0x", "pair a x\u2028pair a y", "pair a x\rpair a y",
]

# First lines that are invalid.
BAD_FIRST = [
    "", " ", "\t", "given ", " given", "given  a", "given a ", " given a", "given a  b", "given\ta", "given\t", "given\r",
    "given a\tb", "given a\r", "Given a", "given: a", "a b", "pair a x", "open a x", "givena", "GIVEN",
    "given -", "given a -", "given abcdefghi", "given a \u00e9", "given \u0663", "given a a", "given a b c a",
    "given a b c d e", "given a b c d a", "given - b c d e",
]


class BadLines(unittest.TestCase):
    def expect(self, text, number):
        error = error_of(lambda: parse_book(text))
        self.assertIs(error.__class__, BadLine, repr(text))
        self.assertEqual(vars(error), {"number": number}, repr(text))

    def test_the_good_lines_are_good(self):
        self.assertEqual(len(parse_book("\n".join(GOOD)).rules), 7)

    def test_the_class_of_the_error(self):
        error = error_of(lambda: parse_book(""))
        self.assertIsInstance(error, VoiceError)
        self.assertIsInstance(error, ValueError)
        for other in [value for value in vars(errors).values() if isinstance(value, type)]:
            self.assertEqual(isinstance(error, other), other in (BadLine, VoiceError))

    def test_the_empty_text(self):
        self.expect("", 1)

    def test_first_lines(self):
        for line in BAD_FIRST:
            self.expect(line, 1)
            self.expect("\n".join([line] + GOOD[1:]), 1)
            self.expect("\n".join([line] + GOOD), 1)

    def test_lines_at_each_position(self):
        for line in BAD_LINES:
            for at in range(3, len(GOOD) + 1):
                self.expect("\n".join(GOOD[:at] + [line] + GOOD[at:]), at + 1)

    def test_other_lines_before_their_pairs(self):
        for line in ("open a x", "close a x", "step a x b x", "step b x a x", "step a x a x", "step b x b x a x"):
            self.expect("\n".join(["given a b", "pair b x", line, "pair a x"]), 3)
            self.expect("\n".join(["given a b", line, "pair a x", "pair b x"]), 2)

    def test_a_newline_at_the_end(self):
        for many in range(1, len(GOOD) + 1):
            self.expect("\n".join(GOOD[:many]) + "\n", many + 1)
        self.expect("\n", 1)
        self.expect("\n" + "\n".join(GOOD), 1)
        self.expect("given a\n\n", 2)

    def test_newlines_of_other_systems(self):
        self.expect("\r\n".join(GOOD), 1)
        self.expect("\r".join(GOOD), 1)

    def test_a_fifth_answer(self):
        self.expect("given a\npair a w x y z v", 2)
        self.expect("given a\npair a w x y z\npair a v", 3)
        self.expect("given a\npair a w x\npair a w\npair a y z v", 4)
        self.expect("given a b\npair a w x y z\npair b v w x y\npair a x v", 4)

    def test_a_fault_behind_good_words_in_a_line(self):
        self.expect("given a\npair a x y -", 2)
        self.expect("given a\npair a x\nstep a x a x a y", 3)
        self.expect("given a\npair a x\nstep a x a x b x", 3)

    def test_the_first_of_two(self):
        for first in BAD_LINES:
            for second in ("", "given", "pair a", "open c x", "step a x", "pair a v w z"):
                self.expect("\n".join(GOOD[:4] + [first] + GOOD[4:] + [second]), 5)
                self.expect("\n".join(GOOD[:4] + [second] + GOOD[4:] + [first]), 5)

    def test_many_lines(self):
        lines = GOOD + GOOD[1:] * 100
        self.assertEqual(len(parse_book("\n".join(lines)).rules), 7)
        self.expect("\n".join(lines + ["open b y"]), len(lines) + 1)

    def test_a_text_can_be_parsed_after_an_error(self):
        self.expect("given a\npair a x y\nopen a z", 3)
        self.assertEqual(parse_book("given a\npair a x\nopen a x").rules, [("pair", "a", "x"), ("open", "a", "x")])


if __name__ == "__main__":
    unittest.main()
