"""Points 8, 9, 15 and 16: outlooks and block answerers."""

import random
import unittest
from itertools import product

from games import (
    answered_games, chance_games, changing_book, countdown_book, distant_book, has_closed_run, last_note_book,
    named_books, next_note_book, places_of, plain_rows, repetition_book, second_next_book, segment_book,
)
from lookvoice.books import Book
from lookvoice.comparing import trimmed
from lookvoice.errors import BadWindow, NoAnswer, Silent, UnknownNote, UnknownPair
from lookvoice.holding import Held, without
from lookvoice.outlooks import BlockAnswerer, Outlook, Rings, outlook
from lookvoice.voices import is_unbroken, silent_voice
from lookvoice.windows import settle
from samples import chance_book, error_of, everything_of, full_book, sample_book, voices_of

ENOUGH = [Book([]), full_book("a", "x"), full_book("ab", "xy"), full_book(), next_note_book("ab"),
          next_note_book("abc"), second_next_book(), repetition_book("ab"), last_note_book("a"), countdown_book(2),
          countdown_book(3), distant_book()]
NEVER = [repetition_book("abc"), last_note_book("ab"), last_note_book("abc"), changing_book(), segment_book(0),
         segment_book(1)]


def answered(answerer, voice):
    """The piece with which the answerer answers the voice, note by note."""
    piece = []
    for at, note in enumerate(voice):
        piece.append((note, answerer(list(piece), list(voice[at:at + answerer.ahead + 1]))))
    return piece


def some_blocks(source, book, length):
    """All blocks of so many notes if there are few, else some of them."""
    if len(book.given) ** length <= 30:
        return list(product(book.given, repeat=length))
    return list({tuple(source.choice(book.given) for _ in range(length)) for _ in range(25)})


class Outlooks(unittest.TestCase):
    def test_enough(self):
        for book in ENOUGH:
            found = outlook(book)
            self.assertIs(found.__class__, Outlook)
            self.assertIs(found.enough, True)
            self.assertIs(found.answerer.__class__, BlockAnswerer)
            self.assertIsNone(found.rings)

    def test_never_enough(self):
        for book in NEVER:
            found = outlook(book=book)
            self.assertIs(found.enough, False)
            self.assertIsNone(found.answerer)
            self.assertIs(found.rings.__class__, Rings)

    def test_agrees_with_settle(self):
        source = random.Random(91)
        books = answered_games(source, 120)
        many = {True: 0, False: 0}
        for book in books:
            found = outlook(book)
            small = [settle(book, ahead=ahead).enough for ahead in range(4)]
            self.assertLessEqual(any(small), found.enough)
            if found.enough and found.answerer.ahead <= 6:
                self.assertIs(settle(book, ahead=found.answerer.ahead).enough, True)
            many[found.enough] += 1
        self.assertGreater(min(many.values()), 20)

    def test_the_trimmed_book(self):
        source = random.Random(92)
        for book in ENOUGH + NEVER + answered_games(source, 60):
            self.assertIs(outlook(trimmed(book)).enough, outlook(book).enough)

    def test_useless_rules_make_no_difference(self):
        for book, enough in ((next_note_book("ab"), True), (last_note_book("ab"), False)):
            # A pair with which no piece can begin, and one with which none can end.
            more = [("pair", "a", "v"), ("step", "a", "v", "a", "v"), ("step", "a", "v", "a", "a"),
                    ("pair", "b", "w"), ("open", "b", "w"), ("step", "a", "a", "b", "w"), ("step", "b", "w", "b", "w")]
            self.assertIs(outlook(Book(book.given, book.rules + more)).enough, enough)

    def test_silent(self):
        source = random.Random(93)
        books = [Book(["b", "a"]), sample_book()]
        books += [book for book in chance_games(source, 60) if silent_voice(book) is not None]
        self.assertGreater(len(books), 10)
        for book in books:
            first, second = error_of(lambda: outlook(book)), error_of(lambda: outlook(book))
            for error in (first, second):
                self.assertIs(error.__class__, Silent)
                self.assertIs(error.voice.__class__, list)
                self.assertEqual(error.voice, silent_voice(book))
            first.voice.append("x")
            self.assertEqual(second.voice, silent_voice(book))
            self.assertEqual(error_of(lambda: outlook(book)).voice, silent_voice(book))

    def test_large_books(self):
        source = random.Random(94)
        books = [full_book(), next_note_book("abcd"), chance_book(source, "abcd", "wxyz", 75)]
        rule = source.choice(full_book().rules[32:])
        for book in books + [without(full_book(), [rule])]:
            self.assertIs(outlook(book).enough, True)

    def test_while_rules_are_held(self):
        book = last_note_book("ab")
        held = [("pair", "a", "b"), ("pair", "b", "a")]
        with Held(book, held[0]), Held(book, held[1]):
            error = error_of(lambda: outlook(book))
            self.assertEqual(error.voice, silent_voice(without(last_note_book("ab"), held)))
        self.assertIs(outlook(book).enough, False)
        book = Book(["a", "b"], full_book("ab", "xy").rules + [("step", "a", "x", "b", "y")])
        before = everything_of(book)
        with Held(book, ("step", "a", "x", "b", "y")):
            answerer = outlook(book).answerer
            inside = [answerer.safe(block) for block in product("ab", repeat=answerer.length)]
        self.assertEqual(everything_of(book), before)
        left = outlook(without(book, [("step", "a", "x", "b", "y")])).answerer
        self.assertEqual(inside, [left.safe(block) for block in product("ab", repeat=left.length)])

    def test_rules_that_are_held_later(self):
        source = random.Random(95)
        for book in (next_note_book("ab"), second_next_book(), countdown_book(3)):
            answerer = outlook(book).answerer
            voice = [source.choice(book.given) for _ in range(20)]
            piece = answered(answerer, voice)
            with Held(book, ("pair", *piece[5])):
                self.assertEqual(answered(answerer, voice), piece)

    def test_arguments_stay_as_they_are(self):
        for book in (next_note_book("ab"), last_note_book("ab"), sample_book()):
            before = everything_of(book)
            error_of(lambda: outlook(book))
            self.assertEqual(everything_of(book), before)


class Safe(unittest.TestCase):
    def expect_safe(self, source, book):
        answerer = outlook(book).answerer
        length = answerer.length
        blocks = some_blocks(source, book, length)
        safe = {block: answerer.safe(block) for block in blocks}
        lasts = places_of(book)
        for block in blocks:
            self.assertIn(0, safe[block])
            rows = plain_rows(book, block)
            for place in safe[block]:
                for other in blocks:
                    self.assertTrue(rows[place] & set(safe[other]), (block, place, other))
                for voice in voices_of(book.given, min(length - 1, 5)):
                    self.assertTrue(has_closed_run(book, lasts[place], list(block) + voice), (block, place, voice))

    def test_named_books(self):
        source = random.Random(101)
        for book in ENOUGH:
            self.expect_safe(source, book)

    def test_books_by_chance(self):
        source = random.Random(102)
        lengths = {}
        for book in answered_games(source, 150):
            found = outlook(book)
            if found.enough:
                self.expect_safe(source, book)
                lengths[found.answerer.length] = True
        self.assertGreater(len(lengths), 1)

    def test_larger_books(self):
        source = random.Random(103)
        many = 0
        while many < 4:
            book = chance_book(source, "abcd", "xyz", 65)
            if silent_voice(book) is None and outlook(book).enough:
                self.expect_safe(source, book)
                many += 1

    def test_kinds_of_values(self):
        for book in ENOUGH[1:]:
            answerer = outlook(book).answerer
            for block in some_blocks(random.Random(104), book, answerer.length):
                found = answerer.safe(block)
                self.assertIs(found.__class__, tuple)
                self.assertEqual(found, tuple(sorted(set(found))))
                self.assertEqual(answerer.safe(block=list(block)), found)

    def test_length_and_ahead(self):
        for book in ENOUGH:
            answerer = outlook(book).answerer
            self.assertGreaterEqual(answerer.length, 1)
            self.assertEqual(answerer.ahead, 2 * answerer.length - 1)

    def test_blocks_of_wrong_lengths(self):
        for book in ENOUGH:
            answerer = outlook(book).answerer
            for many in (0, answerer.length - 1, answerer.length + 1, 2 * answerer.length, 40):
                if many != answerer.length:
                    for block in (["a"] * many, ("x",) * many):
                        self.assertIs(error_of(lambda: answerer.safe(block)).__class__, BadWindow)

    def test_unknown_notes_in_blocks(self):
        for book in ENOUGH:
            answerer = outlook(book).answerer
            for at in range(answerer.length):
                block = list(book.given[:1]) * answerer.length or ["x"]
                block[at:] = ["x", "y", "z", "", "A", "a1", "b1"][:answerer.length - at]
                for handed in (block, tuple(block)):
                    error = error_of(lambda: answerer.safe(handed))
                    self.assertIs(error.__class__, UnknownNote)
                    self.assertEqual(error.note, "x")


class Answering(unittest.TestCase):
    def expect_unbroken(self, book, voices):
        answerer = outlook(book).answerer
        for voice in voices:
            piece = answered(answerer, voice)
            self.assertIs(is_unbroken(book, piece), True, (voice, piece))

    def test_named_books(self):
        source = random.Random(111)
        for book in ENOUGH[1:]:
            self.expect_unbroken(book, voices_of(book.given, {1: 40, 2: 7, 3: 5, 4: 3}[len(book.given)]))
            self.expect_unbroken(book, [[source.choice(book.given) for _ in range(many)] for many in (73, 74, 75)])

    def test_books_by_chance(self):
        source = random.Random(112)
        for book in answered_games(source, 80):
            if outlook(book).enough:
                self.expect_unbroken(book, voices_of(book.given, {1: 25, 2: 6, 3: 4}[len(book.given)]))
                self.expect_unbroken(book, [[source.choice(book.given) for _ in range(75)] for _ in range(3)])

    def test_long_blocks(self):
        answerer = outlook(distant_book()).answerer
        # Less than nine notes ahead are not enough, so the blocks cannot be shorter.
        self.assertGreaterEqual(answerer.ahead, 9)
        self.expect_unbroken(distant_book(), [["a"] * many for many in range(76)])

    def test_lists_and_tuples_and_names(self):
        answerer = outlook(second_next_book()).answerer
        window = "abba"[:answerer.ahead + 1]
        found = answerer([], list(window))
        self.assertEqual(answerer((), tuple(window)), found)
        self.assertEqual(answerer(window=list(window), piece=[]), found)

    def test_arguments_stay_as_they_are(self):
        answerer = outlook(next_note_book("ab")).answerer
        piece, window = [("b", "b"), ("b", "a")], ["a", "b"]
        answerer(piece, window)
        self.assertEqual((piece, window), ([("b", "b"), ("b", "a")], ["a", "b"]))


class Errors(unittest.TestCase):
    def expect_error(self, action, kind, **fields):
        error = error_of(action)
        self.assertIs(error.__class__, kind)
        self.assertEqual({name: getattr(error, name) for name in fields}, fields)

    def test_windows_of_wrong_lengths(self):
        for book in ENOUGH:
            answerer = outlook(book).answerer
            for window in ([], (), ["a"] * (answerer.ahead + 2), ("x",) * (answerer.ahead + 2), ["a"] * 90):
                for piece in ([], [("a", "a")], (("x", "y"),)):
                    self.expect_error(lambda: answerer(piece, window), BadWindow)

    def test_unknown_notes(self):
        answerer = outlook(second_next_book()).answerer
        self.assertGreaterEqual(answerer.ahead, 2)
        for window, note in ((["x"], "x"), (["a", "y"], "y"), (["b", "x", "y"], "x"), (["y", "x", "a"], "y"),
                             (["a", "", "A"], "")):
            for piece in ([], [("a", "aa")], [("x", "y")], [("b", "x")]):
                self.expect_error(lambda: answerer(piece, window), UnknownNote, note=note)
                self.expect_error(lambda: answerer(tuple(piece), tuple(window)), UnknownNote, note=note)
        answerer = outlook(Book([])).answerer
        self.expect_error(lambda: answerer([("x", "y")], ["b"]), UnknownNote, note="b")

    def test_unknown_pairs(self):
        answerer = outlook(next_note_book("ab")).answerer
        for pair in (("x", "y"), ("a", "x"), ("x", "a"), ("", "")):
            self.expect_error(lambda: answerer([pair], ["a"]), UnknownPair, pair=pair)
            self.expect_error(lambda: answerer((("a", "b"), pair), ("a", "b")), UnknownPair, pair=pair)

    def test_a_pair_that_was_held(self):
        book = full_book("ab", "xy")
        with Held(book, ("pair", "a", "y")):
            answerer = outlook(book).answerer
        self.expect_error(lambda: answerer([("a", "y")], ["a"]), UnknownPair, pair=("a", "y"))
        self.assertEqual(answerer([("a", "x")], ["a"]), "x")

    def test_no_answer(self):
        answerer = outlook(next_note_book("ab")).answerer
        for window in (["b"], ["b", "a"], ("b", "b")):
            self.expect_error(lambda: answerer([("a", "a")], window), NoAnswer)

    def test_the_same_errors_as_a_table_answerer(self):
        source = random.Random(121)
        book = next_note_book("ab")
        block, table = outlook(book).answerer, settle(book, ahead=1).answerer
        self.assertEqual(block.ahead, table.ahead)
        seen = {}
        for _ in range(600):
            piece = [source.choice(book.pairs + [("x", "y"), ("a", "x")]) for _ in range(source.randrange(3))]
            window = [source.choice(["a", "b", "a", "b", "x"]) for _ in range(source.randrange(4))]
            first, second = error_of(lambda: block(piece, window)), error_of(lambda: table(piece, window))
            self.assertIs(first.__class__, second.__class__)
            if first is not None:
                self.assertEqual(vars(first), vars(second))
            seen[first.__class__] = True
        self.assertEqual(len(seen), 5)


class Samples(unittest.TestCase):
    def test_all_named_books_are_looked_at(self):
        for book in named_books():
            self.assertIn(everything_of(book), [everything_of(other) for other in ENOUGH + NEVER])


if __name__ == "__main__":
    unittest.main()
