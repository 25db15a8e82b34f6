"""Point 20: singers and playing."""

import inspect
import random
import unittest

from games import (
    answered_games, countdown_book, last_note_book, named_books, next_note_book, repetition_book, second_next_book,
    segment_book,
)
from lookvoice.errors import BadWindow, NoAnswer, NoMove, UnknownNote, UnknownPair
from lookvoice.outlooks import outlook
from lookvoice.playing import Singer, play
from lookvoice.voices import is_unbroken
from lookvoice.windows import settle
from samples import full_book


class Listener:
    """An answerer that remembers what it was asked, and answers x."""

    def __init__(self, answers=None):
        self.asked = []
        self.answers = answers

    def __call__(self, piece, window):
        self.asked.append((list(piece), list(window)))
        if self.answers is None:
            return "x"
        if len(piece) == len(self.answers):
            raise NoAnswer()
        return self.answers[len(piece)]


class Caller:
    """A giver that remembers what it was asked, and sings a voice."""

    def __init__(self, voice):
        self.asked = []
        self.voice = voice

    def __call__(self, piece, voice):
        self.asked.append((list(piece), list(voice)))
        return self.voice[len(voice)] if len(voice) < len(self.voice) else None


class Singers(unittest.TestCase):
    def test_sings_the_voice_and_ends(self):
        for voice in ([], ["a"], ["a", "b", "a"], ("b", "b")):
            singer = Singer(voice)
            for many in range(len(voice)):
                self.assertEqual(singer([], list(voice[:many])), voice[many])
            for many in range(len(voice), len(voice) + 3):
                self.assertIsNone(singer([], ["a"] * many))

    def test_only_the_number_of_notes_counts(self):
        singer = Singer(voice=["a", "b", "c"])
        self.assertEqual(singer([("x", "y")], ["no", "note"]), "c")
        self.assertEqual(singer(voice=("",), piece=None), "b")
        self.assertIsNone(singer(("x",), ["x"] * 9))

    def test_the_voice_is_copied(self):
        voice = ["a", "b"]
        singer = Singer(voice)
        voice.clear()
        self.assertEqual(singer.voice, ("a", "b"))
        self.assertIs(singer.voice.__class__, tuple)
        self.assertEqual([singer([], ["a"] * many) for many in range(3)], ["a", "b", None])


class Play(unittest.TestCase):
    def test_a_generator(self):
        caller = Caller("ab")
        found = play(caller, Listener(), ahead=0)
        self.assertTrue(inspect.isgenerator(found))
        self.assertEqual(caller.asked, [])
        self.assertEqual(next(found), ("a", "x"))
        self.assertEqual(len(caller.asked), 1)
        self.assertEqual(list(found), [("b", "x")])

    def test_what_is_heard_note_by_note(self):
        for ahead in range(6):
            voice = ["a", "b", "c", "d"]
            listener = Listener(["w", "x", "y", "z"])
            found = list(play(Caller(voice), listener, ahead=ahead))
            self.assertEqual(found, list(zip(voice, "wxyz")))
            self.assertEqual(listener.asked, [(found[:at], voice[at:at + ahead + 1]) for at in range(4)])

    def test_what_the_giver_is_asked(self):
        for ahead in range(6):
            voice = ["a", "b", "c", "d"]
            caller = Caller(voice)
            found = list(play(giver=caller, answerer=Listener(), ahead=ahead))
            # Each note is asked for as soon as the window lacks it, and the end just once.
            expected = [(found[:max(0, many - ahead)], voice[:many]) for many in range(5)]
            self.assertEqual(caller.asked, expected)

    def test_the_empty_voice(self):
        listener, caller = Listener(), Caller([])
        self.assertEqual(list(play(caller, listener, ahead=3)), [])
        self.assertEqual((caller.asked, listener.asked), ([([], [])], []))

    def test_the_limit(self):
        for limit in range(6):
            for ahead in (0, 1, 3, 9):
                caller, listener = Caller("abcde" * 30), Listener()
                found = list(play(caller, listener, ahead=ahead, limit=limit))
                self.assertEqual(found, [(note, "x") for note in "abcde"[:limit]])
                self.assertEqual(len(caller.asked), limit)
                self.assertEqual([window for piece, window in listener.asked],
                                 [list("abcde"[at:limit][:ahead + 1]) for at in range(limit)])

    def test_a_limit_that_the_voice_just_reaches(self):
        caller = Caller("abc")
        self.assertEqual(len(list(play(caller, Listener(), ahead=1, limit=3))), 3)
        self.assertEqual(len(caller.asked), 3)
        caller = Caller("abc")
        self.assertEqual(len(list(play(caller, Listener(), ahead=1, limit=4))), 3)
        self.assertEqual(len(caller.asked), 4)

    def test_the_usual_limit(self):
        for ahead in (0, 2, 59, 60, 100):
            caller = Caller("ab" * 100)
            self.assertEqual(len(list(play(caller, Listener(), ahead=ahead))), 60)
            self.assertEqual(len(caller.asked), 60)
        self.assertEqual(len(list(play(Caller("ab" * 100), Listener(), ahead=4, limit=123))), 123)

    def test_ahead_and_limit_are_passed_by_name(self):
        with self.assertRaises(TypeError):
            list(play(Singer("a"), Listener(), 0))

    def test_no_answer(self):
        for many in range(4):
            listener = Listener("wxyz"[:many])
            found = list(play(Caller("abcd"), listener, ahead=1))
            self.assertEqual(found, [*zip("abcd", "wxyz"[:many]), ("abcd"[many], None)])
            self.assertEqual(len(listener.asked), many + 1)

    def test_other_errors_pass_through(self):
        for error in (BadWindow(), UnknownNote("x"), UnknownPair(("x", "y")), ValueError("no"), KeyError("no")):
            def wrong(piece, window):
                if len(piece) == 2:
                    raise error
                return "x"

            found = play(Singer("aaaa"), wrong, ahead=0)
            self.assertEqual([next(found), next(found)], [("a", "x")] * 2)
            with self.assertRaises(error.__class__) as caught:
                next(found)
            self.assertIs(caught.exception, error)

    def test_errors_of_the_giver_pass_through(self):
        for error in (NoMove(), NoAnswer(), ValueError("no")):
            def wrong(piece, voice):
                if len(voice) == 2:
                    raise error
                return "a"

            found = play(wrong, Listener(), ahead=1)
            self.assertEqual(next(found), ("a", "x"))
            with self.assertRaises(error.__class__):
                next(found)

    def test_the_rules_are_not_checked(self):
        found = list(play(Singer(["no", "such note", ""]), lambda piece, window: "nor this answer", ahead=2))
        self.assertEqual(found, [(note, "nor this answer") for note in ("no", "such note", "")])

    def test_new_lists_in_each_call(self):
        handed = []

        def giver(piece, voice):
            handed.extend([piece, voice])
            self.assertEqual((piece.__class__, voice.__class__), (list, list))
            found = "abc"[len(voice)] if len(voice) < 3 else None
            piece.append("x")
            voice.clear()
            return found

        def answerer(piece, window):
            handed.extend([piece, window])
            self.assertEqual((piece.__class__, window.__class__), (list, list))
            found = "".join(window)
            piece.clear()
            window.append("x")
            return found

        self.assertEqual(list(play(giver, answerer, ahead=1)), [("a", "ab"), ("b", "bc"), ("c", "c")])
        self.assertEqual(len({id(one) for one in handed}), len(handed))

    def test_the_pairs_are_tuples(self):
        for pair in play(Singer("ab"), Listener("w"), ahead=0):
            self.assertIs(pair.__class__, tuple)

    def test_two_plays_at_once(self):
        singer, answerer = Singer("aab"), settle(next_note_book("ab"), ahead=1).answerer
        first, second = play(singer, answerer, ahead=1), play(singer, answerer, ahead=1)
        found = [(next(first), next(second)) for _ in range(3)]
        self.assertEqual(found, [(pair, pair) for pair in (("a", "a"), ("a", "b"), ("b", "a"))])


class Together(unittest.TestCase):
    """What the program's own givers and answerers do when they play."""

    def test_table_answerers_against_singers(self):
        source = random.Random(141)
        for book, ahead in ((next_note_book("ab"), 1), (second_next_book(), 2), (countdown_book(3), 3)):
            answerer = settle(book, ahead=ahead).answerer
            for length in (0, 1, 5, 75):
                voice = [source.choice(book.given) for _ in range(length)]
                piece = list(play(Singer(voice), answerer, ahead=ahead, limit=75))
                self.assertEqual([note for note, _ in piece], voice)
                self.assertIs(is_unbroken(book, piece), True)

    def test_block_answerers_against_singers(self):
        source = random.Random(142)
        for book in [full_book(), *named_books()]:
            if not book.given or not outlook(book).enough:
                continue
            answerer = outlook(book).answerer
            for length in (1, 9, 60):
                voice = [source.choice(book.given) for _ in range(length)]
                piece = list(play(Singer(voice), answerer, ahead=answerer.ahead))
                self.assertEqual([note for note, _ in piece], voice)
                self.assertIs(is_unbroken(book, piece), True)

    def test_every_answerer_loses_against_the_table_giver(self):
        for book in [next_note_book("ab"), second_next_book(), repetition_book("abc"), *answered_games(
                random.Random(143), 40)]:
            for ahead in range(3 if len(book.given) < 3 else 2):
                giver = settle(book, ahead=ahead).giver
                if giver is not None:
                    piece = list(play(giver, eager(book), ahead=ahead))
                    self.assertLessEqual(len(piece), giver.notes)
                    self.assertIs(piece[-1][1] is None or not is_unbroken(book, piece), True)

    def test_every_answerer_loses_against_the_ring_giver(self):
        for book in (repetition_book("abc"), last_note_book("ab"), segment_book(0), segment_book(1)):
            for ahead in (0, 1, 2, 11):
                giver = outlook(book).rings.against(ahead)
                piece = list(play(giver, eager(book), ahead=ahead, limit=giver.notes + 1))
                self.assertLessEqual(len(piece), giver.notes)
                self.assertIs(piece[-1][1] is None or not is_unbroken(book, piece), True)


def eager(book):
    """An answerer that keeps the rules along its window wherever it can."""
    def answers(piece, window):
        last = piece[-1] if piece else None
        good = [pair for pair in book.after(last, window[0]) if leads_on(book, pair, window[1:])]
        if not good:
            raise NoAnswer()
        return good[0][1]
    return answers


def leads_on(book, last, notes):
    if not notes:
        return True
    return any(leads_on(book, pair, notes[1:]) for pair in book.after(last, notes[0]))


if __name__ == "__main__":
    unittest.main()
