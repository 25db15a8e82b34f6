"""Points 7, 8 and 9: pieces, runs and behaviours."""

import random
import unittest
from itertools import product

from lookvoice.books import Book
from lookvoice.errors import UnknownNote
from lookvoice.holding import Held
from lookvoice.relations import Relation
from lookvoice.voices import answer, behaviour, is_unbroken, silent_voice
from samples import (
    GIVEN, PAIRS, RULES, chance_book, error_of, everything_of, full_book, is_answered, left, runs_from, sample_book,
    unbroken_pieces, voices_of,
)


def walked_rows(book, voice):
    """The rows of the behaviour of a voice, from the runs walked one by one."""
    lasts = [None] + book.pairs
    rows = []
    for last in lasts:
        ends = {lasts.index(run[-1] if run else last) for run in runs_from(book, last, voice)}
        rows.append(tuple(sorted(ends)))
    return tuple(rows)


def chance_books(seed, many):
    """Books by chance, of no note up to three notes."""
    source = random.Random(seed)
    shapes = [("", "x"), ("a", "x"), ("a", "xyz"), ("ab", "xy"), ("ba", "yxz"), ("abc", "xy")]
    return [chance_book(source, *source.choice(shapes), source.choice([15, 30, 50, 70])) for _ in range(many)]


class Behaviour(unittest.TestCase):
    def expect_unknown(self, book, voice, note):
        for handed in (list(voice), tuple(voice)):
            for action in (lambda: behaviour(book, handed), lambda: answer(book, handed)):
                error = error_of(action)
                self.assertIs(error.__class__, UnknownNote)
                self.assertEqual(error.note, note)

    def test_the_empty_voice(self):
        for voice in ([], ()):
            found = behaviour(sample_book(), voice)
            self.assertIs(found.__class__, Relation)
            self.assertEqual((found.size, found.rows), (4, ((0,), (1,), (2,), (3,))))
            self.assertEqual(behaviour(Book([]), voice).rows, ((0,),))
            self.assertEqual(behaviour(Book(["a", "b"]), voice).rows, ((0,),))

    def test_one_note(self):
        self.assertEqual(behaviour(sample_book(), ["l"]).rows, ((2,), (1,), (1, 2), (2,)))
        self.assertEqual(behaviour(book=sample_book(), voice=("r",)).rows, ((3,), (3,), (), ()))
        self.assertEqual(behaviour(Book(["a"]), ["a"]).rows, ((),))

    def test_several_notes(self):
        self.assertEqual(behaviour(sample_book(), ["l", "l"]).rows, ((1, 2), (1,), (1, 2), (1, 2)))
        self.assertEqual(behaviour(sample_book(), ["l", "r"]).rows, ((), (3,), (3,), ()))
        self.assertEqual(behaviour(sample_book(), ["r", "r"]).rows, ((), (), (), ()))

    def test_runs_walked_one_by_one(self):
        for book in chance_books(21, 40):
            for voice in voices_of(book.given, 4):
                expected = walked_rows(book, voice)
                for handed in (voice, tuple(voice)):
                    found = behaviour(book, handed)
                    self.assertEqual((found.size, found.rows), (len(book.pairs) + 1, expected))

    def test_a_full_book(self):
        over = {"a": (1, 2, 3, 4), "b": (5, 6, 7, 8), "c": (9, 10, 11, 12), "d": (13, 14, 15, 16)}
        for voice in voices_of("abcd", 3)[1:]:
            self.assertEqual(behaviour(full_book(), voice).rows, (over[voice[-1]],) * 17)

    def test_long_voices(self):
        source = random.Random(13)
        book = full_book()
        for length in (50, 200):
            voice = [source.choice("abcd") for _ in range(length)]
            last = "abcd".index(voice[-1]) * 4
            self.assertEqual(behaviour(book, voice).rows, (tuple(range(last + 1, last + 5)),) * 17)
            self.assertEqual(behaviour(book, tuple(voice)).rows, behaviour(book, voice).rows)

    def test_a_long_ring(self):
        answers = "wxyz"
        pairs = [("pair", "a", one) for one in answers]
        steps = [("step", "a", answers[at], "a", answers[(at + 1) % 4]) for at in range(4)]
        book = Book(["a"], pairs + [("open", "a", "w")] + steps)
        for length in (50, 199, 200):
            ends = tuple(((place + length - 1) % 4 + 1,) for place in (1, 2, 3, 4))
            self.assertEqual(behaviour(book, ["a"] * length).rows, (((length - 1) % 4 + 1,),) + ends)

    def test_two_voices_together(self):
        source = random.Random(31)
        for book in chance_books(22, 40):
            for _ in range(10):
                first, second = [[source.choice(book.given) for _ in range(source.randrange(8))] if book.given else []
                                 for _ in range(2)]
                together = behaviour(book, first) * behaviour(book, second)
                self.assertEqual(behaviour(book, first + second).rows, together.rows)

    def test_unknown_notes(self):
        book = sample_book()
        for note in ("a", "x", "", "L", "no note"):
            for at in range(5):
                voice = ["l", "r", "l", "l"]
                voice.insert(at, note)
                self.expect_unknown(book, voice, note)

    def test_the_first_of_two_unknown_notes(self):
        for voice, note in ((["x", "y"], "x"), (["l", "y", "x"], "y"), (["l", "r", "r", "z", "a"], "z")):
            self.expect_unknown(sample_book(), voice, note)
        self.expect_unknown(Book([]), ["l", "r"], "l")

    def test_an_unknown_note_behind_a_voice_without_runs(self):
        self.expect_unknown(sample_book(), ["r", "r", "r", "x", "y"], "x")
        self.expect_unknown(Book(["a"]), ["a"] * 50 + ["b"], "b")

    def test_while_rules_are_held(self):
        book = sample_book()
        for rule in RULES:
            plain = Book(GIVEN, left(RULES, [rule]))
            for voice in voices_of(GIVEN, 3):
                with Held(book, rule):
                    found = behaviour(book, voice)
                self.assertEqual((found.size, found.rows), (len(plain.pairs) + 1, walked_rows(plain, voice)))
        with Held(book, ("pair", "l", "l")):
            self.assertEqual(behaviour(book, ["l"]).rows, ((1,), (1,), (1,)))

    def test_a_held_note_is_known(self):
        book = sample_book()
        with Held(book, ("pair", "r", "a")):
            self.assertEqual(behaviour(book, ["r"]).rows, ((), (), ()))

    def test_keeps_the_rules_of_its_making(self):
        book = sample_book()
        found = behaviour(book, ["l"])
        with Held(book, ("pair", "l", "l")):
            self.assertEqual((found.size, found.rows), (4, ((2,), (1,), (1, 2), (2,))))

    def test_arguments_stay_as_they_are(self):
        book, voice = sample_book(), ["l", "r", "l"]
        before = everything_of(book)
        behaviour(book, voice)
        answer(book, voice)
        silent_voice(book)
        self.assertEqual((voice, everything_of(book)), (["l", "r", "l"], before))


class Unbroken(unittest.TestCase):
    PIECE = [("r", "a"), ("l", "r"), ("l", "r"), ("l", "l"), ("r", "a")]

    def expect(self, book, piece, expected):
        self.assertIs(is_unbroken(book, list(piece)), expected)
        self.assertIs(is_unbroken(book=book, piece=tuple(piece)), expected)

    def test_the_empty_piece(self):
        for book in (Book([]), Book(["a"]), sample_book()):
            self.expect(book, [], True)

    def test_ordinary_pieces(self):
        self.expect(sample_book(), self.PIECE, True)
        self.expect(sample_book(), [("r", "a")], True)
        self.expect(sample_book(), [("l", "r"), ("l", "l")], True)
        self.expect(sample_book(), self.PIECE[1:], True)
        self.expect(sample_book(), self.PIECE[:4], True)

    def test_a_missing_open_close_or_step(self):
        self.expect(sample_book(), [("l", "l")], False)
        self.expect(sample_book(), [("l", "r")], False)
        self.expect(sample_book(), [("l", "l"), ("r", "a")], False)
        self.expect(sample_book(), [("r", "a"), ("l", "r")], False)
        self.expect(sample_book(), [("r", "a"), ("r", "a")], False)
        self.expect(sample_book(), [("l", "r"), ("r", "a")], False)

    def test_each_rule_that_the_piece_uses(self):
        used = [("pair", "r", "a"), ("pair", "l", "r"), ("pair", "l", "l"), ("open", "r", "a"), ("close", "r", "a"),
                ("step", "r", "a", "l", "r"), ("step", "l", "r", "l", "r"), ("step", "l", "r", "l", "l"),
                ("step", "l", "l", "r", "a")]
        for rule in RULES:
            book = sample_book()
            self.expect(Book(GIVEN, left(RULES, [rule])), self.PIECE, rule not in used)
            with Held(book, rule):
                self.expect(book, self.PIECE, rule not in used)
            self.expect(book, self.PIECE, True)

    def test_a_long_piece(self):
        piece = [("abcd"[at % 4], "wxyz"[at % 3]) for at in range(25)]
        book = full_book()
        self.expect(book, piece, True)
        for at in range(25):
            self.expect(book, piece[:at] + [("a", "v")] + piece[at + 1:], False)
        with Held(book, ("step", *piece[11], *piece[12])):
            self.expect(book, piece, False)

    def test_unknown_notes_and_pairs(self):
        for bad in (("x", "y"), ("x", "l"), ("l", "a"), ("r", "l"), ("", ""), ("l", ""), ("a", "r"), ("L", "r")):
            for at in range(len(self.PIECE) + 1):
                self.expect(sample_book(), self.PIECE[:at] + [bad] + self.PIECE[at:], False)
            self.expect(sample_book(), [bad], False)
            self.expect(Book([]), [bad], False)

    def test_all_short_pieces(self):
        for book in chance_books(5, 25):
            pairs = (book.pairs + [("a", "v"), ("q", "x")])[:7]
            good = [piece for voice in voices_of(book.given, 3) for piece in unbroken_pieces(book, voice)]
            for length in range(4):
                for piece in product(pairs, repeat=length):
                    self.expect(book, piece, list(piece) in good)

    def test_the_piece_stays_as_it_is(self):
        piece = list(self.PIECE)
        is_unbroken(sample_book(), piece)
        self.assertEqual(piece, self.PIECE)


class Answer(unittest.TestCase):
    def test_the_empty_voice(self):
        for book in (Book([]), Book(["a"]), sample_book()):
            for voice in ([], ()):
                self.assertEqual(answer(book, voice), [])
                self.assertIs(answer(book, voice).__class__, list)

    def test_by_hand(self):
        self.assertEqual(answer(sample_book(), ["l", "l"]), [("l", "r"), ("l", "l")])
        self.assertEqual(answer(book=sample_book(), voice=("r",)), [("r", "a")])
        self.assertEqual(answer(sample_book(), ["r", "l", "l", "r"]), [("r", "a"), ("l", "r"), ("l", "l"), ("r", "a")])
        for voice in (["l"], ["r", "r"], ["r", "l"], ["l", "r"]):
            self.assertIsNone(answer(sample_book(), voice))

    def test_the_first_of_several(self):
        self.assertEqual(answer(full_book(), ["b", "a", "b"]), [("b", "w"), ("a", "w"), ("b", "w")])
        book = Book(["a"], [("pair", "a", "z"), ("pair", "a", "b"), ("open", "a", "b"), ("open", "a", "z"),
                            ("close", "a", "b"), ("close", "a", "z"), ("step", "a", "z", "a", "b"),
                            ("step", "a", "b", "a", "b"), ("step", "a", "b", "a", "z")])
        self.assertEqual(answer(book, ["a"]), [("a", "z")])
        self.assertEqual(answer(book, ["a", "a"]), [("a", "z"), ("a", "b")])
        self.assertEqual(answer(book, ["a", "a", "a"]), [("a", "z"), ("a", "b"), ("a", "z")])

    def test_a_late_end_of_the_first_answers(self):
        # Answer y comes first and can go on for ever, but only z can close.
        rules = [("pair", "a", "y"), ("pair", "a", "z"), ("pair", "b", "z"), ("open", "a", "y"), ("open", "a", "z"),
                 ("close", "b", "z"), ("step", "a", "y", "a", "y"), ("step", "a", "z", "a", "z"),
                 ("step", "a", "z", "b", "z")]
        book = Book(["a", "b"], rules)
        self.assertEqual(answer(book, ["a"] * 49 + ["b"]), [("a", "z")] * 49 + [("b", "z")])
        self.assertIsNone(answer(book, ["a"] * 50))

    def test_runs_walked_one_by_one(self):
        for book in chance_books(33, 60):
            for voice in voices_of(book.given, 4):
                pieces = unbroken_pieces(book, voice)
                expected = pieces[0] if pieces else None
                self.assertEqual(answer(book, voice), expected)
                self.assertEqual(answer(book, tuple(voice)), expected)
                self.assertEqual(is_answered(book, voice), expected is not None)
                if expected is not None:
                    self.assertIs(is_unbroken(book, expected), True)
                    self.assertEqual([note for note, _ in expected], voice)

    def test_long_voices(self):
        source = random.Random(17)
        for length in (50, 200):
            voice = [source.choice("abcd") for _ in range(length)]
            self.assertEqual(answer(full_book(), voice), [(note, "w") for note in voice])
            book = chance_book(source, "abcd", "wxyz", 45)
            piece = answer(book, voice)
            self.assertEqual(piece is not None, is_answered(book, voice))

    def test_long_voices_that_are_answered(self):
        # Each answer must foretell the next note, so nothing but the whole voice decides.
        pairs = [(note, one) for note in "ab" for one in "ab"]
        rules = [(word, *pair) for word in ("pair", "open", "close") for pair in pairs]
        steps = [("step", *first, *second) for first in pairs for second in pairs if first[1] == second[0]]
        book = Book(["a", "b"], rules + steps)
        source = random.Random(19)
        for length in (1, 50, 200):
            voice = [source.choice("ab") for _ in range(length)]
            self.assertEqual(answer(book, voice), list(zip(voice, voice[1:] + ["a"])))

    def test_a_change_of_what_is_returned(self):
        book = sample_book()
        found = answer(book, ["l", "l"])
        found.reverse()
        found.append("x")
        self.assertEqual(answer(book, ["l", "l"]), [("l", "r"), ("l", "l")])

    def test_while_rules_are_held(self):
        book = sample_book()
        for rule in RULES:
            plain = Book(GIVEN, left(RULES, [rule]))
            for voice in voices_of(GIVEN, 5):
                with Held(book, rule):
                    found = answer(book, voice)
                self.assertEqual(found, answer(plain, voice))
        with Held(book, ("close", "r", "a")):
            self.assertIsNone(answer(book, ["r"]))


class SilentVoice(unittest.TestCase):
    def first_silent(self, book, most):
        """The first voice of at most so many notes that no piece answers, or None."""
        silent = [voice for voice in voices_of(book.given, most) if not unbroken_pieces(book, voice)]
        return silent[0] if silent else None

    def test_no_given_notes(self):
        self.assertIsNone(silent_voice(Book([])))

    def test_no_rules(self):
        self.assertEqual(silent_voice(Book(["b", "a"])), ["b"])

    def test_every_voice_is_answered(self):
        self.assertIsNone(silent_voice(full_book()))
        self.assertIsNone(silent_voice(full_book("a", "x")))

    def test_a_note_without_answers(self):
        rules = full_book("ac", "x").rules
        for given in (["a", "b", "c"], ["a", "c", "b"], ["b", "a", "c"]):
            self.assertEqual(silent_voice(Book(given, rules)), ["b"])

    def test_by_hand(self):
        self.assertEqual(silent_voice(book=sample_book()), ["l"])
        rules = [rule for rule in full_book("ab", "x").rules if rule != ("step", "b", "x", "a", "x")]
        self.assertEqual(silent_voice(Book(["a", "b"], rules)), ["b", "a"])
        self.assertEqual(silent_voice(Book(["b", "a"], rules)), ["b", "a"])

    def test_the_order_of_given_notes_decides(self):
        rules = [rule for rule in full_book("ab", "x").rules if rule[0] != "step"]
        self.assertEqual(silent_voice(Book(["a", "b"], rules)), ["a", "a"])
        self.assertEqual(silent_voice(Book(["b", "a"], rules)), ["b", "b"])

    def test_several_notes(self):
        # The answers count the notes: after the fourth there is no answer.
        answers = "wxyz"
        rules = [(word, "a", one) for word in ("pair", "close") for one in answers] + [("open", "a", "w")]
        steps = [("step", "a", first, "a", second) for first, second in zip(answers, answers[1:])]
        for many in range(4):
            self.assertEqual(silent_voice(Book(["a"], rules + steps[:many])), ["a"] * (many + 2))

    def test_a_close_that_is_missing_late(self):
        rules = full_book("ab", "x").rules + [("pair", "a", "y"), ("step", "a", "x", "a", "y")]
        rules = [rule for rule in rules if rule != ("step", "a", "x", "a", "x")]
        self.assertEqual(silent_voice(Book(["b", "a"], rules)), ["a", "a"])

    def test_voices_walked_one_by_one(self):
        lengths = []
        for book in chance_books(41, 150):
            found = silent_voice(book)
            walked = self.first_silent(book, 5 if len(book.given) < 3 else 4)
            if walked is not None or found is None:
                self.assertEqual(found, walked)
            else:
                self.assertFalse(is_answered(book, found))
                self.assertGreater(len(found), 4)
            lengths.append(0 if found is None else len(found))
        for length in (0, 1, 2, 3):
            self.assertIn(length, lengths)

    def test_denser_books(self):
        source = random.Random(43)
        lengths = []
        for _ in range(150):
            book = chance_book(source, "ab", "xyz", source.choice([60, 70, 80]))
            found = silent_voice(book)
            lengths.append(0 if found is None else len(found))
            for voice in voices_of("ab", 6):
                if found is not None and voice == found:
                    break
                self.assertTrue(is_answered(book, voice))
            if found is not None:
                self.assertFalse(is_answered(book, found))
        for length in (0, 1, 2, 3):
            self.assertIn(length, lengths)

    def test_while_rules_are_held(self):
        for rule in full_book("ab", "xy").rules:
            book = full_book("ab", "xy")
            with Held(book, rule):
                self.assertIsNone(silent_voice(book))
                with Held(book, ("pair", rule[1], "y" if rule[2] == "x" else "x")):
                    found = silent_voice(book)
                    plain = Book(book.given, book.rules)
                    self.assertEqual(found, self.first_silent(plain, 3))
            self.assertIsNone(silent_voice(book))

    def test_a_change_of_what_is_returned(self):
        book = sample_book()
        found = silent_voice(book)
        self.assertIs(found.__class__, list)
        found.append("x")
        self.assertEqual(silent_voice(book), ["l"])

    def test_a_large_book_by_chance(self):
        source = random.Random(47)
        for _ in range(20):
            book = chance_book(source, "abcd", "wxyz", 40)
            found = silent_voice(book)
            for voice in voices_of("abcd", 3):
                if found is not None and voice == found:
                    break
                self.assertTrue(is_answered(book, voice))
            if found is not None:
                self.assertFalse(is_answered(book, found))


class Samples(unittest.TestCase):
    def test_the_pairs_of_the_sample_have_these_places(self):
        self.assertEqual(sample_book().pairs, PAIRS)


if __name__ == "__main__":
    unittest.main()
