"""Points 21 and 22: comparing and trimming."""

import random
import unittest

from lookvoice.books import Book
from lookvoice.comparing import parting, spare_rules, trimmed, used_rules
from lookvoice.holding import Held
from samples import (
    GIVEN, RULES, chance_book, everything_of, full_book, is_answered, left, named_pairs, sample_book, voices_of,
)


def first_difference(first, second, most):
    """The parting of two books, if it has at most so many notes, from voices looked at one by one."""
    notes = list(first.given) + [note for note in second.given if note not in first.given]
    for voice in voices_of(notes, most):
        if is_answered(first, voice) != is_answered(second, voice):
            return (voice, is_answered(first, voice))
    return None


def piece_rules(piece):
    """The rules that a piece uses, by point 22."""
    steps = [("step", *piece[at], *piece[at + 1]) for at in range(len(piece) - 1)]
    ends = [("open", *piece[0]), ("close", *piece[-1])]
    return [("pair", *pair) for pair in piece] + ends + steps


def walked_rules(book):
    """The rules that some unbroken piece uses, from all pieces long enough to lead by way of every rule."""
    pairs, used = book.pairs, set()
    pieces = [[pair] for pair in pairs if ("open", *pair) in book]
    for _ in range(2 * len(pairs)):
        for piece in pieces:
            if ("close", *piece[-1]) in book:
                used.update(piece_rules(piece))
        pieces = [piece + [pair] for piece in pieces for pair in pairs if ("step", *piece[-1], *pair) in book]
    return [rule for rule in book.rules if rule in used]


def few_pairs(source, share):
    """A book by chance with at most three pairs."""
    while True:
        book = chance_book(source, *source.choice([("a", "xyz"), ("ab", "xy"), ("abc", "x")]), share)
        if len(book.pairs) <= 3:
            return book


class Parting(unittest.TestCase):
    def expect(self, first, second, voice, can_first):
        self.assertEqual(parting(first, second), (voice, can_first))
        found = parting(first=first, second=second)
        self.assertIs(found.__class__, tuple)
        self.assertIs(found[0].__class__, list)
        self.assertIs(found[1], can_first)

    def test_the_same_book(self):
        for book in (Book([]), Book(["a"]), sample_book(), full_book()):
            self.assertIsNone(parting(book, book))
        self.assertIsNone(parting(sample_book(), sample_book()))

    def test_the_same_voices_by_other_rules(self):
        self.assertIsNone(parting(full_book("ab", "x"), full_book("ab", "yz")))
        self.assertIsNone(parting(full_book("ab", "wxyz"), full_book("ab", "x")))
        self.assertIsNone(parting(full_book("ab", "x"), full_book("ba", "x")))
        answers = "xy"
        swinging = [("pair", "a", one) for one in answers] + [("close", "a", one) for one in answers]
        swinging += [("open", "a", "x"), ("step", "a", "x", "a", "y"), ("step", "a", "y", "a", "x")]
        self.assertIsNone(parting(full_book("a", "z"), Book(["a"], swinging)))

    def test_books_that_answer_the_empty_voice_only(self):
        books = [Book([]), Book(["a"]), Book(["b", "a"]), Book(["a"], [("pair", "a", "x"), ("open", "a", "x")])]
        for first in books:
            for second in books:
                self.assertIsNone(parting(first, second))

    def test_both_directions(self):
        fewer = Book(GIVEN, left(RULES, [("open", "r", "a")]))
        self.expect(sample_book(), fewer, ["r"], True)
        self.expect(fewer, sample_book(), ["r"], False)
        fewer = Book(GIVEN, left(RULES, [("step", "l", "r", "l", "l")]))
        self.expect(sample_book(), fewer, ["l", "l"], True)
        self.expect(fewer, sample_book(), ["l", "l"], False)

    def test_the_order_of_the_first_book(self):
        some = full_book("ab", "x").rules
        self.expect(Book(["a", "b"], some), Book(["b", "a"]), ["a"], True)
        self.expect(Book(["b", "a"], some), Book(["a", "b"]), ["b"], True)
        self.expect(Book(["a", "b"]), Book(["b", "a"], some), ["a"], False)
        self.expect(Book(["b", "a"]), Book(["a", "b"], some), ["b"], False)

    def test_notes_of_only_one_book(self):
        self.expect(full_book("ab", "x"), full_book("a", "x"), ["b"], True)
        self.expect(full_book("a", "x"), full_book("ab", "x"), ["b"], False)
        self.expect(full_book("a", "x"), full_book("b", "x"), ["a"], True)
        self.expect(full_book("b", "x"), full_book("a", "x"), ["b"], True)
        self.expect(Book(["c"]), full_book("ba", "x"), ["b"], False)
        self.expect(full_book("abcd", "x"), full_book("efgh", "x"), ["a"], True)
        self.expect(Book(list("abcd")), full_book("hefg", "x"), ["h"], False)

    def test_notes_of_the_second_book_come_last(self):
        rules = [("pair", "b", "x"), ("open", "b", "x"), ("close", "b", "x")]
        more = [("pair", "c", "x"), ("open", "c", "x"), ("close", "c", "x")]
        self.expect(Book(["a", "b"]), Book(["c", "b", "a"], rules + more), ["b"], False)
        self.expect(Book(["a", "b"], rules), Book(["c", "b", "a"], rules + more), ["c"], False)

    def test_a_note_of_one_book_without_answers(self):
        self.assertIsNone(parting(full_book("a", "x"), Book(["b", "a"], full_book("a", "x").rules)))
        self.assertIsNone(parting(Book(["b", "a"], full_book("a", "x").rules), full_book("a", "x")))

    def test_books_without_given_notes(self):
        self.expect(Book([]), full_book("ba", "x"), ["b"], False)
        self.expect(full_book("ba", "x"), Book([]), ["b"], True)

    def test_a_note_that_only_late_makes_a_difference(self):
        # The second book knows b only behind a.
        behind = [("pair", "b", "x"), ("close", "b", "x"), ("step", "a", "x", "b", "x")]
        second = Book(["b", "a"], full_book("a", "x").rules + behind)
        self.expect(full_book("a", "x"), second, ["a", "b"], False)
        self.expect(second, full_book("a", "x"), ["a", "b"], True)

    def test_long_partings(self):
        answers = "wxyz"
        rules = [("pair", "a", one) for one in answers] + [("open", "a", "w")]
        ring = [("step", "a", answers[at], "a", answers[(at + 1) % 4]) for at in range(4)]
        first = Book(["a"], rules + ring + [("close", "a", one) for one in "wxy"])
        self.expect(first, full_book("a", "x"), ["a"] * 4, False)
        self.expect(full_book("a", "x"), first, ["a"] * 4, True)
        three = [("pair", "a", one) for one in "xyz"] + [("close", "a", one) for one in "xy"] + [("open", "a", "x")]
        three += [("step", "a", "x", "a", "y"), ("step", "a", "y", "a", "z"), ("step", "a", "z", "a", "x")]
        four = Book(["a"], rules + ring + [("close", "a", one) for one in "wxz"])
        self.expect(four, Book(["a"], three), ["a"] * 6, True)
        late = Book(["a"], rules + ring + [("close", "a", one) for one in "wxyz"[:2]])
        early = Book(["a"], rules + ring[:3] + [("close", "a", one) for one in "wx"])
        self.expect(late, early, ["a"] * 5, True)
        self.expect(early, late, ["a"] * 5, False)

    def test_voices_looked_at_one_by_one(self):
        source = random.Random(51)
        shapes = [("", "x"), ("a", "xyz"), ("b", "xy"), ("ab", "xy"), ("ba", "xy"), ("ca", "yx"), ("abc", "xy")]
        seen = []
        for _ in range(400):
            share = source.choice([20, 40, 60, 80])
            first, second = [chance_book(source, *source.choice(shapes), share) for _ in range(2)]
            self.expect_looked_at(first, second, seen)
        self.assertIn(None, seen)
        self.assertIn((2, True), seen)
        self.assertIn((3, False), seen)

    def test_books_that_differ_by_a_rule(self):
        source = random.Random(53)
        seen = []
        for _ in range(200):
            first = chance_book(source, "ab", "xyz", source.choice([40, 60, 80]))
            held = [rule for rule in first.rules if source.randrange(12) == 0]
            self.expect_looked_at(first, Book(first.given, left(first.rules, held)), seen)
        self.assertIn(None, seen)
        self.assertIn((3, True), seen)

    def expect_looked_at(self, first, second, seen):
        found = parting(first, second)
        walked = first_difference(first, second, 4)
        if found is None or walked is not None:
            self.assertEqual(found, walked)
        else:
            self.assertGreater(len(found[0]), 4)
            self.assertEqual((is_answered(first, found[0]), is_answered(second, found[0])), (found[1], not found[1]))
        seen.append(None if found is None else (len(found[0]), found[1]))

    def test_while_rules_are_held(self):
        book, other = sample_book(), sample_book()
        for rule in RULES:
            plain = Book(GIVEN, left(RULES, [rule]))
            with Held(book, rule):
                self.assertEqual(parting(book, other), parting(plain, other))
                self.assertEqual(parting(other, book), parting(other, plain))
                with Held(other, rule):
                    self.assertIsNone(parting(book, other))
        with Held(book, ("close", "r", "a")):
            self.expect(book, other, ["r"], False)
            self.expect(other, book, ["r"], True)

    def test_books_stay_as_they_are(self):
        first, second = sample_book(), full_book("ab", "xy")
        rules = second.rules
        before = everything_of(first)
        parting(first, second)[0].append("x")
        self.assertEqual((everything_of(first), second.rules), (before, rules))
        self.assertEqual(parting(first, second), (["r"], True))


class UsedRules(unittest.TestCase):
    def expect(self, given, rules, unused):
        book = Book(given, rules)
        used = [rule for rule in book.rules if rule not in unused]
        found = used_rules(book)
        self.assertEqual(found, used)
        self.assertIs(found.__class__, list)
        new = trimmed(book)
        self.assertIs(new.__class__, Book)
        self.assertIsNot(new, book)
        self.assertEqual((new.given, new.rules), (book.given, used))

    def test_all_are_used(self):
        self.expect([], [], [])
        self.expect(["a", "b"], [], [])
        self.expect(list("abcd"), full_book().rules, [])
        self.expect(GIVEN, RULES, [])

    def test_by_name(self):
        self.assertEqual(used_rules(book=sample_book()), RULES)
        self.assertEqual(trimmed(book=sample_book()).rules, RULES)

    def test_no_piece_but_the_empty_one(self):
        rules = full_book("ab", "xy").rules
        for word in ("open", "close"):
            fewer = [rule for rule in rules if rule[0] != word]
            self.expect(["a", "b"], fewer, fewer)
        pairs = [rule for rule in rules if rule[0] == "pair"]
        self.expect(["a", "b"], pairs, pairs)

    def test_no_opening_leads_there(self):
        good = [("pair", "a", "x"), ("open", "a", "x"), ("close", "a", "x")]
        lost = [("pair", "b", "x"), ("close", "b", "x"), ("step", "b", "x", "a", "x"), ("step", "b", "x", "b", "x")]
        self.expect(["a", "b"], good + lost, lost)

    def test_no_closing_is_reached(self):
        good = [("pair", "a", "x"), ("open", "a", "x"), ("close", "a", "x")]
        lost = [("pair", "b", "x"), ("open", "b", "x"), ("step", "a", "x", "b", "x"), ("step", "b", "x", "b", "x")]
        self.expect(["b", "a"], good + lost, lost)

    def test_one_of_several_words_is_missing(self):
        good = [("pair", "a", "x"), ("pair", "b", "y"), ("open", "a", "x"), ("close", "b", "y"),
                ("step", "a", "x", "b", "y")]
        self.expect(["a", "b"], good, [])
        for gone in good:
            rules = left(good, [gone])
            self.expect(["a", "b"], rules, rules)

    def test_a_long_way_to_a_closing(self):
        answers = "wxyz"
        rules = [("pair", note, one) for note in "ab" for one in answers] + [("open", "a", "w"), ("close", "b", "z")]
        pairs = [(note, one) for note in "ab" for one in answers]
        chain = [("step", *first, *second) for first, second in zip(pairs, pairs[1:])]
        self.expect(["a", "b"], rules + chain, [])
        for gone in chain:
            fewer = [rule for rule in rules + chain if rule != gone]
            self.expect(["a", "b"], fewer, fewer)

    def test_a_step_from_a_dead_end_to_one_that_nothing_reaches(self):
        # Both pairs lie on no piece, though one can be reached and the other can close.
        good = [("pair", "a", "x"), ("open", "a", "x"), ("close", "a", "x")]
        lost = [("pair", "a", "y"), ("pair", "a", "z"), ("open", "a", "y"), ("close", "a", "z")]
        self.expect(["a"], good + lost + [("step", "a", "z", "a", "y")], lost + [("step", "a", "z", "a", "y")])
        self.expect(["a"], good + lost + [("step", "a", "y", "a", "z")], [])

    def test_the_order_of_rules(self):
        source = random.Random(3)
        for _ in range(30):
            others = RULES[3:]
            source.shuffle(others)
            book = Book(GIVEN, RULES[:3] + others)
            self.assertEqual(used_rules(book), RULES)
            self.assertEqual(trimmed(book).rules, RULES)

    def test_pieces_walked_one_by_one(self):
        source = random.Random(61)
        seen = []
        for _ in range(300):
            book = few_pairs(source, source.choice([20, 35, 50, 70]))
            found = used_rules(book)
            self.assertEqual(found, walked_rules(book))
            seen.append(len(book.rules) - len(found))
        self.assertIn(0, seen)
        self.assertIn(5, seen)

    def test_trimmed_answers_the_same_voices(self):
        source = random.Random(67)
        for _ in range(60):
            book = chance_book(source, "abc", "xyz", source.choice([5, 10, 20, 40]))
            new = trimmed(book)
            self.assertIsNone(parting(book, new))
            self.assertIsNone(first_difference(book, new, 4))
            self.assertEqual((used_rules(new), trimmed(new).rules), (new.rules, new.rules))
            self.assertTrue(new <= book)

    def test_the_old_book_stays(self):
        lost = [("pair", "l", "z"), ("step", "l", "z", "l", "l")]
        book = Book(GIVEN, RULES + lost)
        before = everything_of(book)
        new = trimmed(book)
        self.assertEqual(new.rules, RULES)
        used_rules(book).clear()
        self.assertEqual(everything_of(book), before)
        with Held(new, RULES[0]):
            self.assertEqual(everything_of(book), before)
        with Held(book, RULES[0]):
            self.assertEqual(new.rules, RULES)

    def test_while_rules_are_held(self):
        book = sample_book()
        for rule in RULES:
            plain = Book(GIVEN, left(RULES, [rule]))
            with Held(book, rule):
                self.assertEqual(used_rules(book), walked_rules(plain))
                new = trimmed(book)
            self.assertEqual((new.given, new.rules), (GIVEN, walked_rules(plain)))
            self.assertEqual(book.rules, RULES)
        with Held(book, ("pair", "r", "a")), Held(book, ("close", "l", "l")):
            self.assertEqual(used_rules(book), [])
            self.assertEqual(trimmed(book).given, GIVEN)


class SpareRules(unittest.TestCase):
    def expect(self, book, spare):
        before = book.rules
        found = spare_rules(book)
        self.assertEqual(found, spare)
        self.assertIs(found.__class__, list)
        self.assertEqual(book.rules, before)

    def test_no_rules(self):
        self.expect(Book([]), [])
        self.expect(Book(["a", "b"]), [])

    def test_none_is_spare(self):
        self.expect(full_book("ab", "x"), [])
        rules = [rule for rule in RULES if rule != ("step", "l", "r", "l", "r")]
        self.expect(Book(GIVEN, rules), [])

    def test_each_of_two_is_spare_but_not_both(self):
        two = [("step", "l", "l", "l", "l"), ("step", "l", "r", "l", "r")]
        self.expect(sample_book(), two)
        book = sample_book()
        for first, second in (two, two[::-1]):
            with Held(book, first):
                self.expect(book, [])
            self.assertIn(first, spare_rules(book))

    def test_each_is_spare_alone(self):
        book = full_book("ab", "xy")
        self.expect(book, book.rules)

    def test_unused_rules_are_spare(self):
        good = full_book("a", "x").rules
        lost = [("pair", "b", "x"), ("close", "b", "x"), ("step", "b", "x", "a", "x"), ("step", "b", "x", "b", "x")]
        self.expect(Book(["a", "b"], good + lost), [rule for rule in Book(["a", "b"], good + lost).rules
                                                    if rule in lost])

    def test_used_rules_that_are_spare(self):
        # y only does what x does, too; without x there is no opening.
        rules = full_book("a", "x").rules + [("pair", "a", "y"), ("close", "a", "y"), ("step", "a", "x", "a", "y")]
        book = Book(["a"], rules)
        self.assertEqual(used_rules(book), book.rules)
        self.expect(book, [("pair", "a", "y"), ("close", "a", "y"), ("step", "a", "x", "a", "y")])

    def test_by_name(self):
        self.assertEqual(spare_rules(book=full_book("a", "x")), [])

    def test_rules_left_out_one_by_one(self):
        source = random.Random(71)
        seen = {"spare": 0, "used and spare": 0, "needed": 0}
        for _ in range(80):
            shape = source.choice([("a", "xyz"), ("ab", "xy"), ("ba", "xy")])
            self.expect_left_out(chance_book(source, *shape, source.choice([30, 50, 70])), seen)
        self.assertGreater(min(seen.values()), 50)

    def expect_left_out(self, book, seen):
        spare, used = spare_rules(book), used_rules(book)
        self.assertEqual(spare, [rule for rule in book.rules if rule in spare])
        for rule in book.rules:
            fewer = Book(book.given, left(book.rules, [rule]))
            difference = first_difference(book, fewer, 6)
            if difference is None:
                self.assertEqual(rule in spare, parting(book, fewer) is None)
            else:
                self.assertNotIn(rule, spare)
            if rule not in used:
                self.assertIn(rule, spare)
            seen["spare" if rule in spare else "needed"] += 1
            seen["used and spare"] += rule in spare and rule in used

    def test_a_pair_rule_takes_its_other_rules_along(self):
        book = full_book("ab", "xy")
        with Held(book, ("step", "a", "x", "b", "y")), Held(book, ("step", "a", "x", "b", "x")):
            spare = spare_rules(book)
            self.assertIn(("pair", "a", "x"), spare)
            self.assertNotIn(("pair", "a", "y"), spare)

    def test_while_rules_are_held(self):
        for word in ("pair", "open", "close", "step"):
            for rule in [rule for rule in RULES if rule[0] == word]:
                book = sample_book()
                with Held(book, rule):
                    self.expect(book, spare_rules(Book(GIVEN, left(RULES, [rule]))))
                    self.assertEqual(book.rules, left(RULES, [rule]))
                self.assertEqual(book.rules, RULES)

    def test_everything_of_the_book_stays(self):
        book = sample_book()
        before = everything_of(book)
        spare_rules(book).clear()
        self.assertEqual(everything_of(book), before)
        with Held(book, RULES[5]), Held(book, RULES[0]):
            spare_rules(book)
        self.assertEqual(everything_of(book), before)

    def test_a_large_book(self):
        book = full_book()
        self.expect(book, book.rules)
        self.assertEqual(len(spare_rules(book)), 304)

    def test_spare_rules_name_pairs_of_the_book(self):
        book = chance_book(random.Random(5), "abcd", "wxyz", 60)
        for rule in spare_rules(book):
            self.assertIn(rule, book)
            for pair in named_pairs(rule):
                self.assertIn(pair, book.pairs)


if __name__ == "__main__":
    unittest.main()
