"""Points 2, 3 and 4: what a book takes, and the first error that it meets."""

import unittest

from lookvoice.books import Book
from lookvoice.errors import BadName, BadRule, TooMany, Twice, UnknownNote, UnknownPair
from samples import error_of

GOOD_NAMES = [
    "a", "z", "A", "Z", "0", "9", "m", "M", "5", "aaaaaaaa", "Z0z9A1a8", "00000000", "abcdefg", "pair", "None",
]

BAD_CHARACTERS = list(" _-.,:;!?#$%&@^`'\"/\\|()[]{}<>=+*~\n\t\r\0\x7f") + [
    "\u00e9", "\u00df", "\u0430", "\u00b2", "\u0663", "\uff11", "\uff21", "\u4e00", "\u0301", "\u00a0", "\U0001d400",
]

BAD_NAMES = ["", "aaaaaaaaa", "123456789", "abcdefgh" * 4] + BAD_CHARACTERS + [
    name for one in BAD_CHARACTERS for name in (one + "a", "a" + one, "a" + one + "a", "abcdefg" + one)
]

FOUR_ANSWERS = [("pair", "a", answer) for answer in ("w", "x", "y", "z")]


class Reading(unittest.TestCase):
    def expect(self, given, rules, kind, **fields):
        for as_given in (list, tuple):
            for as_rules in (list, tuple):
                error = error_of(lambda: Book(as_given(given), as_rules(rules)))
                self.assertIs(error.__class__, kind)
                self.assertEqual(vars(error), fields)


class GivenNotes(Reading):
    def test_names_that_are_notes(self):
        for name in GOOD_NAMES:
            self.assertEqual(Book([name]).given, (name,))
            self.assertEqual(Book(["n", name, "o"]).given, ("n", name, "o"))

    def test_every_ascii_letter_and_digit(self):
        for code in range(128):
            one = chr(code)
            allowed = "a" <= one <= "z" or "A" <= one <= "Z" or "0" <= one <= "9"
            for name in (one, one + "bc", "b" + one + "c", "bc" + one, one * 8):
                self.assertEqual(error_of(lambda: Book([name])) is None, allowed, repr(name))

    def test_names_that_are_not_notes(self):
        for name in BAD_NAMES:
            self.expect([name], [], BadName, name=name)
            self.expect(["a", name], [], BadName, name=name)

    def test_length_of_names(self):
        for length in range(12):
            name = "abcdefghijklmn"[:length]
            self.assertEqual(error_of(lambda: Book([name])) is None, 1 <= length <= 8)

    def test_no_given_note(self):
        for given in ([], ()):
            book = Book(given)
            self.assertEqual((book.given, book.pairs, book.rules), ((), [], []))
        self.expect([], [("pair", "a", "b")], UnknownNote, note="a")

    def test_four_and_five_given_notes(self):
        self.assertEqual(Book(["d", "c", "b", "a"]).given, ("d", "c", "b", "a"))
        self.expect(["a", "b", "c", "d", "e"], [], TooMany)

    def test_five_are_too_many_before_any_name_is_read(self):
        self.expect(["", "b", "c", "d", "e"], [], TooMany)
        self.expect(["a", "b", "c", "d", "-"], [], TooMany)
        self.expect(["a", "a", "a", "a", "a"], [], TooMany)
        self.expect(["a", "b", "c", "d", "e"], [()], TooMany)

    def test_a_name_twice(self):
        self.expect(["a", "a"], [], Twice, name="a")
        self.expect(["a", "b", "c", "a"], [], Twice, name="a")
        self.expect(["a", "b", "c", "b"], [], Twice, name="b")
        self.assertEqual(Book(["a", "A", "aa", "0"]).given, ("a", "A", "aa", "0"))

    def test_the_first_of_several_faults(self):
        self.expect(["a", "a", "-"], [], Twice, name="a")
        self.expect(["a", "-", "a"], [], BadName, name="-")
        self.expect(["-", "-"], [], BadName, name="-")
        self.expect(["a", "+", "-"], [], BadName, name="+")
        self.expect(["a", "b", "b", "a"], [], Twice, name="b")

    def test_given_notes_are_read_before_rules(self):
        self.expect(["a", "-"], [()], BadName, name="-")
        self.expect(["a", "a"], [("no",)], Twice, name="a")


class FormOfRules(Reading):
    def test_the_empty_tuple(self):
        self.expect(["a"], [()], BadRule, rule=())

    def test_first_words(self):
        words = ["", "Pair", "PAIR", "pairs", "pai", " pair", "opens", "closed", "stop", "a", "given", "pair\n"]
        for word in words:
            for rest in ((), ("a", "x"), ("a", "x", "a", "x")):
                rule = (word, *rest)
                self.expect(["a"], [("pair", "a", "x"), rule], BadRule, rule=rule)

    def test_lengths(self):
        for word, right in (("pair", 3), ("open", 3), ("close", 3), ("step", 5)):
            for length in range(1, 9):
                rule = (word, "a", "x", "a", "x", "a", "x", "a")[:length]
                if length == right:
                    self.assertIn(rule, Book(["a"], [("pair", "a", "x"), rule]))
                else:
                    self.expect(["a"], [("pair", "a", "x"), rule], BadRule, rule=rule)

    def test_form_comes_before_notes(self):
        for rule in (("no", "b", "-"), ("pair", "b"), ("pair", "b", "-", "x"), ("open", "b"), ("step", "b", "x")):
            self.expect(["a"], [rule], BadRule, rule=rule)


class PairRules(Reading):
    def test_unknown_note(self):
        self.expect(["a"], [("pair", "b", "x")], UnknownNote, note="b")
        self.expect(["a"], [("pair", "", "x")], UnknownNote, note="")
        self.expect(["a"], [("pair", "A", "x")], UnknownNote, note="A")

    def test_unknown_note_comes_before_the_answer(self):
        self.expect(["a"], [("pair", "b", "-")], UnknownNote, note="b")
        self.expect(["a"], [("pair", "", "")], UnknownNote, note="")

    def test_answers_are_notes(self):
        for answer in GOOD_NAMES:
            self.assertEqual(Book(["a"], [("pair", "a", answer)]).answers("a"), [answer])
        for answer in BAD_NAMES:
            self.expect(["a"], [("pair", "a", answer)], BadName, name=answer)

    def test_an_answer_may_be_a_given_note(self):
        book = Book(["a", "b"], [("pair", "a", "a"), ("pair", "a", "b"), ("pair", "b", "a")])
        self.assertEqual(book.pairs, [("a", "a"), ("a", "b"), ("b", "a")])

    def test_no_and_four_answers(self):
        self.assertEqual(Book(["a"]).answers("a"), [])
        self.assertEqual(Book(["a"], FOUR_ANSWERS).answers("a"), ["w", "x", "y", "z"])

    def test_five_answers(self):
        self.expect(["a"], FOUR_ANSWERS + [("pair", "a", "v")], TooMany)
        self.expect(["a", "b"], FOUR_ANSWERS + [("pair", "b", "v"), ("pair", "a", "v")], TooMany)

    def test_four_answers_to_each_note(self):
        rules = [("pair", note, answer) for answer in "wxyz" for note in "abcd"]
        self.assertEqual(len(Book(["a", "b", "c", "d"], rules).pairs), 16)

    def test_a_bad_fifth_answer_is_a_bad_name(self):
        self.expect(["a"], FOUR_ANSWERS + [("pair", "a", "-")], BadName, name="-")

    def test_a_fifth_rule_that_repeats_one(self):
        for repeated in FOUR_ANSWERS:
            book = Book(["a"], FOUR_ANSWERS + [repeated, repeated])
            self.assertEqual(book.answers("a"), ["w", "x", "y", "z"])
            self.assertEqual(book.rules, FOUR_ANSWERS)


class OtherRules(Reading):
    def setUp(self):
        self.pairs = [("pair", "a", "x"), ("pair", "b", "y")]

    def test_unknown_note(self):
        for word in ("open", "close"):
            self.expect(["a", "b"], self.pairs + [(word, "c", "x")], UnknownNote, note="c")
        self.expect(["a", "b"], self.pairs + [("step", "c", "x", "a", "x")], UnknownNote, note="c")
        self.expect(["a", "b"], self.pairs + [("step", "a", "x", "c", "x")], UnknownNote, note="c")

    def test_unknown_pair(self):
        for word in ("open", "close"):
            for answer in ("y", "-", "", "a"):
                self.expect(["a", "b"], self.pairs + [(word, "a", answer)], UnknownPair, pair=("a", answer))
        self.expect(["a", "b"], self.pairs + [("step", "a", "y", "a", "x")], UnknownPair, pair=("a", "y"))
        self.expect(["a", "b"], self.pairs + [("step", "a", "x", "b", "x")], UnknownPair, pair=("b", "x"))

    def test_the_first_pair_of_a_step_comes_before_the_second(self):
        self.expect(["a", "b"], self.pairs + [("step", "a", "y", "c", "x")], UnknownPair, pair=("a", "y"))
        self.expect(["a", "b"], self.pairs + [("step", "a", "y", "b", "x")], UnknownPair, pair=("a", "y"))
        self.expect(["a", "b"], self.pairs + [("step", "c", "x", "d", "x")], UnknownNote, note="c")
        self.expect(["a", "b"], self.pairs + [("step", "c", "x", "a", "y")], UnknownNote, note="c")

    def test_a_pair_that_is_used_before_its_rule(self):
        late = ("pair", "a", "z")
        self.expect(["a", "b"], [("open", "a", "z"), late], UnknownPair, pair=("a", "z"))
        self.expect(["a", "b"], [("close", "a", "z"), late], UnknownPair, pair=("a", "z"))
        self.expect(["a", "b"], self.pairs + [("step", "a", "z", "a", "x"), late], UnknownPair, pair=("a", "z"))
        self.expect(["a", "b"], self.pairs + [("step", "a", "x", "a", "z"), late], UnknownPair, pair=("a", "z"))
        self.assertIn(("open", "a", "z"), Book(["a", "b"], [late, ("open", "a", "z")]))

    def test_a_pair_of_another_note_does_not_count(self):
        self.expect(["a", "b"], [("pair", "b", "x"), ("open", "a", "x")], UnknownPair, pair=("a", "x"))


class SeveralRules(Reading):
    def test_the_first_fault_counts(self):
        faults = [
            (("no", "a"), BadRule, {"rule": ("no", "a")}),
            ((), BadRule, {"rule": ()}),
            (("pair", "b", "x"), UnknownNote, {"note": "b"}),
            (("pair", "a", "-"), BadName, {"name": "-"}),
            (("open", "a", "v"), UnknownPair, {"pair": ("a", "v")}),
            (("pair", "a", "v"), TooMany, {}),
        ]
        for first, kind, fields in faults:
            for second, _, _ in faults:
                self.expect(["a"], FOUR_ANSWERS + [first, second], kind, **fields)

    def test_a_repeated_rule_counts_once(self):
        rules = [("pair", "a", "x"), ("open", "a", "x"), ("close", "a", "x"), ("step", "a", "x", "a", "x")]
        self.assertEqual(Book(["a"], rules * 3).rules, rules)
        self.assertEqual(Book(["a"], rules + rules[::-1]).rules, rules)

    def test_rules_by_name_and_left_out(self):
        self.assertEqual(Book(given=["a"]).rules, [])
        self.assertEqual(Book(given=("a",), rules=(("pair", "a", "x"),)).pairs, [("a", "x")])


if __name__ == "__main__":
    unittest.main()
