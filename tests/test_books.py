"""Points 1, 5 and 8: what a book says of its rules."""

import random
import unittest

from lookvoice.books import Book
from lookvoice.errors import UnknownNote, UnknownPair
from lookvoice.holding import Held, without
from samples import GIVEN, PAIRS, RULES, error_of, everything_of, orders, sample_book


class OrderOfRules(unittest.TestCase):
    def test_given_notes_keep_their_order(self):
        self.assertEqual(Book(["z", "a", "M", "0"]).given, ("z", "a", "M", "0"))

    def test_all_orders_of_some_rules(self):
        rules = [RULES[0], RULES[2], RULES[4], RULES[5], RULES[8]]
        found = orders(rules)
        self.assertGreater(len(found), 5)
        for order in found:
            book = Book(GIVEN, order)
            self.assertEqual(book.pairs, [("l", "l"), ("r", "a")])
            self.assertEqual(book.rules, rules)

    def test_rules_in_shuffled_orders(self):
        source = random.Random(5)
        for _ in range(200):
            pairs, others = RULES[1:3], RULES[3:]
            source.shuffle(pairs)
            source.shuffle(others)
            book = Book(GIVEN, [RULES[0]] + pairs + others)
            self.assertEqual((book.pairs, book.rules), (PAIRS, RULES))

    def test_the_first_occurrence_of_a_pair_rule_decides(self):
        rules = [("pair", "r", "z"), ("pair", "l", "c"), ("pair", "r", "a"), ("pair", "l", "a"), ("pair", "r", "m"),
                 ("pair", "l", "a"), ("pair", "l", "c"), ("pair", "r", "z"), ("pair", "l", "b")]
        book = Book(GIVEN, rules)
        self.assertEqual(book.answers("l"), ["c", "a", "b"])
        self.assertEqual(book.answers("r"), ["z", "a", "m"])
        expected = [("l", "c"), ("l", "a"), ("l", "b"), ("r", "z"), ("r", "a"), ("r", "m")]
        self.assertEqual(book.pairs, expected)
        self.assertEqual(book.rules, [("pair", *pair) for pair in expected])

    def test_every_rule_of_a_full_book(self):
        pairs = [(note, answer) for note in "dbca" for answer in "zxyw"]
        single = [(word, *pair) for word in ("pair", "open", "close") for pair in pairs]
        rules = single + [("step", *first, *second) for first in pairs for second in pairs]
        self.assertEqual(len(rules), 16 * 3 + 256)
        shuffled = rules[16:]
        random.Random(1).shuffle(shuffled)
        by_answer = sorted(rules[:16], key=lambda rule: "zxyw".index(rule[2]))
        book = Book(tuple("dbca"), by_answer + shuffled)
        self.assertEqual((book.pairs, book.rules), (pairs, rules))

    def test_the_rules_of_a_book_make_the_same_book(self):
        book = sample_book()
        self.assertEqual(everything_of(Book(book.given, book.rules)), everything_of(book))


class Answers(unittest.TestCase):
    def test_answers(self):
        book = sample_book()
        self.assertEqual(book.answers("l"), ["l", "r"])
        self.assertEqual(book.answers(note="r"), ["a"])
        self.assertEqual(Book(["n"]).answers("n"), [])

    def test_unknown_note(self):
        for note in ("a", "x", "", "L", "no note"):
            error = error_of(lambda: sample_book().answers(note))
            self.assertIs(error.__class__, UnknownNote)
            self.assertEqual(error.note, note)


class After(unittest.TestCase):
    def test_the_start(self):
        book = sample_book()
        self.assertEqual(book.after(None, "l"), [("l", "r")])
        self.assertEqual(book.after(last=None, note="r"), [("r", "a")])
        self.assertEqual(Book(GIVEN, RULES[:3]).after(None, "l"), [])

    def test_each_pair(self):
        book = sample_book()
        found = {last: (book.after(last, "l"), book.after(last=last, note="r")) for last in PAIRS}
        self.assertEqual(found, {
            ("l", "l"): ([("l", "l")], [("r", "a")]),
            ("l", "r"): ([("l", "l"), ("l", "r")], []),
            ("r", "a"): ([("l", "r")], []),
        })

    def test_in_the_order_of_pairs(self):
        rules = [("pair", "l", "z"), ("pair", "l", "a"), ("open", "l", "a"), ("open", "l", "z"),
                 ("step", "l", "a", "l", "a"), ("step", "l", "a", "l", "z")]
        book = Book(GIVEN, rules)
        self.assertEqual(book.after(None, "l"), [("l", "z"), ("l", "a")])
        self.assertEqual(book.after(("l", "a"), "l"), [("l", "z"), ("l", "a")])
        self.assertEqual(book.after(("l", "z"), "l"), [])

    def test_unknown_pair(self):
        for last in (("l", "a"), ("r", "l"), ("x", "l"), ("l", ""), ("", "")):
            error = error_of(lambda: sample_book().after(last, "l"))
            self.assertIs(error.__class__, UnknownPair)
            self.assertEqual(error.pair, last)

    def test_a_held_pair_is_unknown(self):
        book = sample_book()
        with Held(book, ("pair", "l", "r")):
            error = error_of(lambda: book.after(("l", "r"), "l"))
        self.assertIs(error.__class__, UnknownPair)
        self.assertEqual(error.pair, ("l", "r"))

    def test_unknown_note_comes_first(self):
        for last in (None, ("l", "l"), ("l", "a"), ("x", "l")):
            error = error_of(lambda: sample_book().after(last, "a"))
            self.assertIs(error.__class__, UnknownNote)
            self.assertEqual(error.note, "a")


class RuleInBook(unittest.TestCase):
    def test_rules_in_force(self):
        book = sample_book()
        for rule in RULES:
            self.assertIs(rule in book, True)

    def test_rules_not_in_force(self):
        absent = [("pair", "l", "a"), ("pair", "r", "l"), ("open", "l", "l"), ("open", "l", "a"), ("close", "l", "r"),
                  ("step", "r", "a", "r", "a"), ("step", "l", "l", "l", "r"), ("pair", "x", "l"), ("open", "x", "x")]
        for rule in absent:
            self.assertIs(rule in sample_book(), False)

    def test_other_tuples(self):
        others = [(), ("",), ("pair",), ("pair", "l"), ("pair", "l", "l", "l"), ("l", "l"), ("l", "r"), ("r", "a"),
                  ("open", "l"), ("step", "l", "l"), ("step", "l", "l", "r"), ("step", "l", "l", "r", "a", "l"),
                  ("Pair", "l", "l"), ("", "l", "l"), ("given", "l", "r"), ("step", "l", "l", "r", "a", "l", "r"),
                  ("open", "l", "r", "l", "l"), ("pair", "-", "-")]
        for rule in others:
            self.assertIs(rule in sample_book(), False)

    def test_an_empty_book(self):
        for rule in RULES + [()]:
            self.assertIs(rule in Book([]), False)
            self.assertIs(rule in Book(GIVEN), False)


class Comparing(unittest.TestCase):
    def test_the_same_rules(self):
        book = sample_book()
        self.assertIs(book <= book, True)
        self.assertIs(book <= sample_book(), True)
        self.assertIs(book >= sample_book(), True)

    def test_fewer_rules(self):
        for rule in RULES[3:]:
            fewer = Book(GIVEN, [other for other in RULES if other != rule])
            self.assertIs(fewer <= sample_book(), True)
            self.assertIs(sample_book() <= fewer, False)

    def test_other_orders_of_the_same(self):
        other = Book(["r", "l"], [RULES[1], RULES[2], RULES[0]] + RULES[:2:-1])
        self.assertNotEqual(other.rules, RULES)
        self.assertIs(other <= sample_book(), True)
        self.assertIs(sample_book() <= other, True)

    def test_other_given_notes_without_rules(self):
        self.assertIs(Book([]) <= Book([]), True)
        self.assertIs(Book([]) <= Book(["a"]), True)
        self.assertIs(Book(["a"]) <= Book([]), False)
        self.assertIs(Book(["a"]) <= Book(["b"]), False)
        self.assertIs(Book(["b"]) <= Book(["a", "b"]), True)
        self.assertIs(Book(["a", "b"]) <= Book(["b"]), False)

    def test_one_more_given_note(self):
        more = Book(["x", *GIVEN], RULES)
        self.assertIs(sample_book() <= more, True)
        self.assertIs(more <= sample_book(), False)

    def test_more_given_notes_with_fewer_rules(self):
        first, second = Book(["a", "b"]), Book(["a"], [("pair", "a", "b")])
        self.assertIs(first <= second, False)
        self.assertIs(second <= first, False)

    def test_while_rules_are_held(self):
        book, other = sample_book(), sample_book()
        for rule in RULES:
            with Held(book, rule):
                self.assertIs(book <= other, True)
                self.assertIs(other <= book, False)
                self.assertIs(book <= book, True)
                with Held(other, rule):
                    self.assertIs(other <= book, True)
                    self.assertIs(book <= other, True)
            self.assertIs(other <= book, True)

    def test_a_held_pair_and_the_rules_that_name_it(self):
        book, other = sample_book(), sample_book()
        with Held(book, ("pair", "r", "a")), Held(other, ("open", "r", "a")):
            self.assertIs(book <= other, True)
            self.assertIs(other <= book, False)


class Copies(unittest.TestCase):
    def test_lists_and_tuples(self):
        for as_given in (list, tuple):
            for as_rules in (list, tuple):
                book = Book(as_given(GIVEN), as_rules(RULES))
                self.assertEqual(everything_of(book), everything_of(sample_book()))

    def test_kinds_of_values(self):
        book = Book(list(GIVEN), RULES)
        self.assertIs(book.given.__class__, tuple)
        for found in (book.pairs, book.rules, book.answers("l"), book.after(None, "l"), book.after(PAIRS[0], "l")):
            self.assertIs(found.__class__, list)
        for found in book.pairs + book.rules + book.after(None, "l") + book.after(PAIRS[0], "l"):
            self.assertIs(found.__class__, tuple)

    def test_arguments_stay_as_they_are(self):
        given, rules = ["l", "r"], RULES + RULES[::-1]
        book = Book(given, rules)
        everything_of(book)
        without(book, RULES[3:])
        self.assertEqual((given, rules), (["l", "r"], RULES + RULES[::-1]))

    def test_a_later_change_of_an_argument(self):
        given, rules = list(GIVEN), list(RULES)
        book = Book(given, rules)
        given[0] = "x"
        given.append("y")
        rules[0] = ("pair", "l", "x")
        del rules[2:]
        self.assertEqual(everything_of(book), everything_of(sample_book()))

    def test_a_later_change_of_what_is_returned(self):
        book = sample_book()
        for found in (book.pairs, book.rules, book.answers("l"), book.after(None, "l"), book.after(PAIRS[1], "l")):
            found.reverse()
            found.append("x")
            del found[0]
        self.assertEqual(everything_of(book), everything_of(sample_book()))

    def test_books_share_nothing(self):
        first, second = sample_book(), sample_book()
        with Held(first, RULES[0]):
            self.assertEqual(everything_of(second), everything_of(sample_book()))


if __name__ == "__main__":
    unittest.main()
