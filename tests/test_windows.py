"""Points 10 to 14: settling whether a look-ahead is enough, table answerers and table givers."""

import random
import unittest
from itertools import product

from games import (
    answered_games, chance_games, countdown_book, is_lost, last_note_book, losing_notes, named_books, next_note_book,
    plain_answer, plain_losses, plain_opening, plays, repetition_book, second_next_book, segment_book,
    short_silent_voice,
)
from lookvoice.books import Book
from lookvoice.errors import BadAhead, BadWindow, NoAnswer, NoMove, UnknownNote, UnknownPair
from lookvoice.holding import Held, without
from lookvoice.notation import parse_book
from lookvoice.voices import is_unbroken, silent_voice
from lookvoice.windows import Hearing, TableAnswerer, TableGiver, settle
from samples import RULES, chance_book, error_of, everything_of, full_book, sample_book, voices_of


def small_aheads(book):
    """The look-aheads for which the plain search is quick."""
    return range({0: 7, 1: 7, 2: 4, 3: 3, 4: 2}[len(book.given)])


def plain_table(book, ahead, lost):
    """All rows of the table, by point 13."""
    windows = [tuple(window) for window in voices_of(book.given, ahead + 1)[1:]]
    rows = [(last, window, plain_answer(book, ahead, lost, last, window))
            for last in [None] + book.pairs for window in windows]
    return [row for row in rows if row[2] is not None]


def answered(answerer, voice, ahead):
    """The piece with which an answerer answers the voice."""
    piece = []
    for at, note in enumerate(voice):
        piece.append((note, answerer(list(piece), list(voice[at:at + ahead + 1]))))
    return piece


def last_part(voice, many):
    return voice[len(voice) - many:]


class Settle(unittest.TestCase):
    def expect_as_searched(self, book, ahead):
        lost = plain_losses(book, ahead)
        opening = plain_opening(book, ahead, lost)
        hearing = settle(book, ahead=ahead)
        self.assertIs(hearing.__class__, Hearing)
        self.assertEqual(hearing.ahead, ahead)
        self.assertIs(hearing.enough, opening is None)
        if opening is None:
            self.assertIs(hearing.answerer.__class__, TableAnswerer)
            self.assertIsNone(hearing.giver)
            self.assertEqual(hearing.answerer.ahead, ahead)
        else:
            self.assertIs(hearing.giver.__class__, TableGiver)
            self.assertIsNone(hearing.answerer)
            self.assertEqual((hearing.giver.opening, hearing.giver.notes), opening)
            self.assertIs(hearing.giver.opening.__class__, tuple)
            self.assertEqual(hearing.giver.ahead, ahead)
        return hearing.enough

    def test_the_example(self):
        head = ("given l r\npair l l r\npair r l r\nopen l l\nopen l r\nopen r l\nopen r r\n"
                "close l l\nclose l r\nclose r l\nclose r r")
        steps = "\nstep l l l l l r\nstep l r r l r r\nstep r l l l l r\nstep r r r l r r"
        book = parse_book(head + steps)
        self.assertEqual(settle(book, ahead=0).giver.notes, 2)
        self.assertEqual(settle(book, ahead=1).answerer([], ["l", "r"]), "r")
        giver = settle(book, ahead=0).giver
        self.assertEqual(giver([], []), "l")
        self.assertEqual(giver([("l", "l")], ["l"]), "r")
        self.assertEqual(giver([("l", "r")], ["l"]), "l")

    def test_named_books_as_searched(self):
        for book in named_books():
            for ahead in small_aheads(book):
                self.expect_as_searched(book, ahead)

    def test_least_look_aheads(self):
        cases = [(full_book("ab", "xy"), 0), (next_note_book("ab"), 1), (next_note_book("abc"), 1),
                 (second_next_book(), 2), (repetition_book("ab"), 0), (countdown_book(2), 2), (countdown_book(3), 3)]
        for book, least in cases:
            for ahead in range(5):
                self.assertIs(settle(book, ahead=ahead).enough, ahead >= least)
        for book in (repetition_book("abc"), last_note_book("ab"), segment_book(0)):
            for ahead in range(5):
                self.assertIs(settle(book, ahead=ahead).enough, False)

    def test_books_by_chance_as_searched(self):
        source = random.Random(71)
        kinds = {True: 0, False: 0}
        for book in chance_games(source, 160):
            ahead = source.choice(list(small_aheads(book)))
            kinds[self.expect_as_searched(book, ahead)] += 1
        self.assertGreater(min(kinds.values()), 30)

    def test_all_look_aheads_of_two_notes(self):
        source = random.Random(72)
        for book in (next_note_book("ab"), *answered_games(source, 3, most_given=2)):
            for ahead in (4, 5, 6):
                self.expect_as_searched(book, ahead)

    def test_large_books(self):
        source = random.Random(73)
        for share in (50, 60, 70, 90):
            book = chance_book(source, "abcd", "wxyz", share)
            for ahead in (0, 1, 2):
                self.expect_as_searched(book, ahead)
        # The plain search would be slow here, so only what is certain is looked at.
        self.assertIs(settle(full_book(), ahead=6).enough, True)
        self.assertIs(settle(Book(list("abcd")), ahead=6).enough, False)
        self.assertIs(settle(next_note_book("abcd"), ahead=6).enough, True)

    def test_no_given_notes(self):
        for ahead in range(7):
            hearing = settle(Book([]), ahead=ahead)
            self.assertEqual((hearing.ahead, hearing.enough, hearing.giver), (ahead, True, None))
            self.assertEqual(hearing.answerer.table(), [])

    def test_a_book_that_does_not_answer_some_short_voice(self):
        # The answers count three notes, and there is none to the fourth.
        rules = [(word, "b", one) for word in ("pair", "close") for one in "wxy"] + [("open", "b", "w")]
        steps = [("step", "b", "w", "b", "x"), ("step", "b", "x", "b", "y")]
        book = Book(["a", "b"], [("pair", "a", "x"), ("open", "a", "x"), ("close", "a", "x"),
                                 ("step", "a", "x", "a", "x"), *rules, *steps])
        silent = silent_voice(book)
        self.assertEqual(silent, ["a", "b"])
        for ahead in range(7):
            giver = settle(book, ahead=ahead).giver
            if ahead > 2:
                self.assertEqual((giver.opening, giver.notes), (("a", "b"), 2))
            else:
                self.assertEqual(len(giver.opening), ahead)
                self.assertEqual(giver.notes, 2)

    def test_ahead_out_of_range(self):
        for ahead in (-1, 7, 8, -7, 60, 10 ** 29 + 7, -10 ** 29 - 7):
            for book in (Book([]), sample_book(), full_book()):
                error = error_of(lambda: settle(book, ahead=ahead))
                self.assertIs(error.__class__, BadAhead)
                self.assertEqual(error.ahead, ahead)

    def test_ahead_is_passed_by_name(self):
        self.assertIs(settle(book=Book([]), ahead=3).enough, True)
        with self.assertRaises(TypeError):
            settle(Book([]), 3)

    def test_while_rules_are_held(self):
        source = random.Random(74)
        for _ in range(40):
            book = source.choice([next_note_book("ab"), full_book("ab", "xy"), second_next_book()])
            rule = source.choice(book.rules)
            left = without(book, [rule])
            ahead = source.randrange(4)
            before = everything_of(book)
            with Held(book, rule):
                self.expect_as_searched(book, ahead)
                inside = settle(book, ahead=ahead)
                held = everything_of(book)
                again = settle(left, ahead=ahead)
                self.assertEqual(everything_of(book), held)
            self.assertEqual(everything_of(book), before)
            self.assertEqual(inside.enough, again.enough)
            # Now the rule is in force again, which the objects do not notice.
            if inside.enough:
                self.assertEqual(inside.answerer.table(), again.answerer.table())
            else:
                self.assertEqual(plays(left, inside.giver, ahead), plays(left, again.giver, ahead))

    def test_rules_that_are_held_later(self):
        book = next_note_book("ab")
        hearing, giver = settle(book, ahead=1), settle(book, ahead=0).giver
        table = hearing.answerer.table()
        with Held(book, ("pair", "a", "a")):
            self.assertEqual(hearing.answerer.table(), table)
            self.assertEqual(hearing.answerer([("a", "a")], ["a", "a"]), "a")
            self.assertEqual(giver([("a", "a")], ["a"]), "b")

    def test_arguments_stay_as_they_are(self):
        for book in (next_note_book("ab"), sample_book()):
            before = everything_of(book)
            for ahead in (-1, 0, 1, 2, 7):
                error_of(lambda: settle(book, ahead=ahead))
                self.assertEqual(everything_of(book), before)


class Table(unittest.TestCase):
    def test_rows_and_their_order(self):
        answerer = settle(next_note_book("ab"), ahead=1).answerer
        rows = answerer.table()
        self.assertIs(rows.__class__, list)
        self.assertEqual(rows[:6], [
            (None, ("a",), "a"), (None, ("b",), "a"),
            (None, ("a", "a"), "a"), (None, ("a", "b"), "b"), (None, ("b", "a"), "a"), (None, ("b", "b"), "b"),
        ])
        self.assertEqual(rows[6:9], [
            (("a", "a"), ("a",), "a"), (("a", "a"), ("a", "a"), "a"), (("a", "a"), ("a", "b"), "b"),
        ])
        lasts = [None, ("a", "a"), ("a", "b"), ("b", "a"), ("b", "b")]
        self.assertEqual([last for last in lasts for row in rows if row[0] == last], [row[0] for row in rows])

    def test_as_searched(self):
        source = random.Random(75)
        many = 0
        for book in named_books() + answered_games(source, 80):
            for ahead in small_aheads(book):
                hearing = settle(book, ahead=ahead)
                if hearing.enough:
                    self.assertEqual(hearing.answerer.table(), plain_table(book, ahead, plain_losses(book, ahead)))
                    many += 1
        self.assertGreater(many, 80)

    def test_every_row_is_what_the_call_answers(self):
        source = random.Random(76)
        for book in [next_note_book("abc"), second_next_book(), *answered_games(source, 30)]:
            ahead = 2 if len(book.given) < 3 else 1
            hearing = settle(book, ahead=ahead)
            if not hearing.enough:
                continue
            rows = {(last, window): answer for last, window, answer in hearing.answerer.table()}
            for last in [None] + book.pairs:
                for window in voices_of(book.given, ahead + 1)[1:]:
                    piece = [] if last is None else [last]
                    if (last, tuple(window)) in rows:
                        self.assertEqual(hearing.answerer(piece, window), rows[(last, tuple(window))])
                    else:
                        error = error_of(lambda: hearing.answerer(piece, window))
                        self.assertIs(error.__class__, NoAnswer)

    def test_kinds_of_values(self):
        rows = settle(second_next_book(), ahead=2).answerer.table()
        self.assertEqual({(row.__class__, row[1].__class__) for row in rows}, {(tuple, tuple)})

    def test_a_change_of_what_is_returned(self):
        answerer = settle(next_note_book("ab"), ahead=1).answerer
        rows = answerer.table()
        expected = list(rows)
        rows.reverse()
        del rows[3:]
        rows.append("x")
        self.assertEqual(answerer.table(), expected)
        self.assertEqual(answerer([], ["a", "b"]), "b")


class Answering(unittest.TestCase):
    def expect_error(self, action, kind, **fields):
        error = error_of(action)
        self.assertIs(error.__class__, kind)
        self.assertEqual({name: getattr(error, name) for name in fields}, fields)

    def test_keeps_the_rules_against_all_short_voices(self):
        source = random.Random(77)
        books = [book for book in named_books() if book.given] + answered_games(source, 50)
        many = 0
        for book in books:
            for ahead in range(4 if len(book.given) < 3 else 2):
                hearing = settle(book, ahead=ahead)
                if hearing.enough:
                    many += 1
                    for voice in voices_of(book.given, {1: 12, 2: 6, 3: 4}[len(book.given)]):
                        piece = answered(hearing.answerer, voice, ahead)
                        self.assertIs(is_unbroken(book, piece), True)
        self.assertGreater(many, 60)

    def test_keeps_the_rules_against_long_voices(self):
        source = random.Random(78)
        for book, ahead in ((next_note_book("abc"), 1), (second_next_book(), 2), (countdown_book(3), 3),
                            (second_next_book(), 5), (full_book(), 2)):
            answerer = settle(book, ahead=ahead).answerer
            for length in (74, 75):
                voice = [source.choice(book.given) for _ in range(length)]
                self.assertIs(is_unbroken(book, answered(answerer, voice, ahead)), True)

    def test_only_the_last_pair_and_the_window_count(self):
        source = random.Random(79)
        book = second_next_book()
        answerer = settle(book, ahead=2).answerer
        for _ in range(200):
            last = source.choice(book.pairs)
            window = [source.choice("ab") for _ in range(source.randrange(1, 4))]
            junk = [source.choice(book.pairs + [("x", "y"), ("a", "no"), ("", "")]) for _ in range(source.randrange(9))]
            plain = error_of(lambda: answerer([last], window))
            behind = error_of(lambda: answerer(junk + [last], window))
            self.assertIs(plain.__class__, behind.__class__)
            if plain is None:
                self.assertEqual(answerer([last], window), answerer(junk + [last], window))

    def test_lists_and_tuples_and_names(self):
        answerer = settle(next_note_book("ab"), ahead=1).answerer
        for as_piece in (list, tuple):
            for as_window in (list, tuple):
                self.assertEqual(answerer(as_piece([("a", "b")]), as_window("ba")), "a")
                self.assertEqual(answerer(window=as_window("b"), piece=as_piece([("a", "b")])), "a")

    def test_arguments_stay_as_they_are(self):
        answerer = settle(next_note_book("ab"), ahead=1).answerer
        piece, window = [("b", "b"), ("a", "b")], ["b", "a"]
        answerer(piece, window)
        self.assertEqual((piece, window), ([("b", "b"), ("a", "b")], ["b", "a"]))

    def test_no_answer(self):
        answerer = settle(next_note_book("ab"), ahead=1).answerer
        for window in (["b"], ["b", "a"], ["b", "b"]):
            self.expect_error(lambda: answerer([("a", "a")], window), NoAnswer)
            self.expect_error(lambda: answerer((("b", "b"), ("a", "a")), tuple(window)), NoAnswer)

    def test_windows_of_wrong_lengths(self):
        for ahead in range(1, 5):
            answerer = settle(next_note_book("ab"), ahead=ahead).answerer
            answerer([], ["a"] * (ahead + 1))
            for window in ([], (), ["a"] * (ahead + 2), ("b",) * 40, ["x"] * (ahead + 2)):
                for piece in ([], [("a", "a")], [("x", "y")]):
                    self.expect_error(lambda: answerer(piece, window), BadWindow)

    def test_unknown_notes(self):
        answerer = settle(next_note_book("ab"), ahead=2).answerer
        for window, note in ((["x"], "x"), (["a", "y"], "y"), (["b", "x", "y"], "x"), (["y", "x", "a"], "y"),
                             (["a", "", "A"], ""), (["a", "b", "A"], "A")):
            for piece in ([], [("a", "a")], [("x", "y")], [("b", "x")]):
                self.expect_error(lambda: answerer(piece, window), UnknownNote, note=note)
                self.expect_error(lambda: answerer(tuple(piece), tuple(window)), UnknownNote, note=note)

    def test_unknown_pairs(self):
        answerer = settle(next_note_book("ab"), ahead=1).answerer
        for pair in (("x", "y"), ("a", "x"), ("x", "a"), ("", ""), ("a", "")):
            for window in (["a"], ["b", "a"]):
                self.expect_error(lambda: answerer([pair], window), UnknownPair, pair=pair)
                self.expect_error(lambda: answerer((("a", "b"), pair), window), UnknownPair, pair=pair)

    def test_a_pair_that_was_held(self):
        book = full_book("ab", "xy")
        with Held(book, ("pair", "a", "y")):
            answerer = settle(book, ahead=0).answerer
        self.expect_error(lambda: answerer([("a", "y")], ["a"]), UnknownPair, pair=("a", "y"))
        self.assertEqual(answerer([("a", "x")], ["a"]), "x")

    def test_no_given_notes(self):
        answerer = settle(Book([]), ahead=2).answerer
        self.expect_error(lambda: answerer([], []), BadWindow)
        self.expect_error(lambda: answerer([], ["a", "b", "c", "d"]), BadWindow)
        self.expect_error(lambda: answerer([("x", "y")], ["b", "a"]), UnknownNote, note="b")


class Giving(unittest.TestCase):
    def givers(self, seed, many):
        """Givers with their books, look-aheads and lost standings."""
        source = random.Random(seed)
        for book in named_books() + chance_games(source, many):
            for ahead in range(4 if len(book.given) < 3 else 2):
                hearing = settle(book, ahead=ahead)
                if not hearing.enough:
                    yield book, ahead, hearing.giver

    def expect_no_move(self, giver, piece, voice):
        for as_piece in (list, tuple):
            error = error_of(lambda: giver(as_piece(piece), as_piece(voice)))
            self.assertIs(error.__class__, NoMove)

    def test_all_plays_are_lost_within_its_notes(self):
        openings = {"short": 0, "long": 0}
        for book, ahead, giver in self.givers(81, 80):
            found = plays(book, giver, ahead)
            lengths = [len(voice) for piece, voice in found]
            self.assertTrue(all(is_lost(book, piece, voice) for piece, voice in found))
            # Some answers make it as long as it says.
            self.assertEqual(max(lengths), giver.notes)
            openings["short" if len(giver.opening) < ahead else "long"] += 1
        self.assertGreater(min(openings.values()), 20)

    def test_moves_as_searched(self):
        for book, ahead, giver in self.givers(82, 50):
            if len(giver.opening) < ahead:
                continue
            lost = plain_losses(book, ahead)
            for last, heard in product([None] + book.pairs, product(book.given, repeat=ahead)):
                if last is None and heard != giver.opening:
                    continue
                piece = [] if last is None else [("x", "y"), last]
                voice = list(heard) if last is None else ["no", "note"] + list(heard)
                if (last, heard) not in lost:
                    self.expect_no_move(giver, piece, voice)
                elif lost[(last, heard)] == 0:
                    self.assertIsNone(giver(piece, voice))
                else:
                    before = {standing: notes for standing, notes in lost.items() if notes < lost[(last, heard)]}
                    self.assertEqual(giver(piece, voice), losing_notes(book, (last, heard), before)[0])

    def test_the_opening_note_by_note(self):
        for book, ahead, giver in self.givers(83, 40):
            for many in range(len(giver.opening)):
                for handed in (giver.opening[:many], list(giver.opening[:many])):
                    self.assertEqual(giver([], handed), giver.opening[many])
                    self.assertEqual(giver(voice=handed, piece=()), giver.opening[many])
            if len(giver.opening) < ahead:
                self.assertIsNone(giver([], list(giver.opening)))

    def test_no_move_in_the_opening(self):
        for book, ahead, giver in self.givers(84, 30):
            opening = list(giver.opening)
            for many in range(len(opening) + 1):
                for pair in book.pairs + [("x", "y")]:
                    self.expect_no_move(giver, [pair], opening[:many])
                for at in range(many):
                    others = [note for note in (*book.given, "x", "") if note != opening[at]]
                    for note in others:
                        self.expect_no_move(giver, [], opening[:at] + [note] + opening[at + 1:many])

    def test_no_move_behind_a_short_opening(self):
        book = Book(["a", "b"], full_book("a", "x").rules)
        giver = settle(book, ahead=3).giver
        self.assertEqual((giver.opening, giver.notes), (("b",), 1))
        for piece in ([], [("a", "x")], [("a", "x")] * 2):
            for voice in (["b", "a"], ["b", "a", "a"], ["a", "a", "a", "a"], ["b", "a", "a", "a", "a"]):
                self.expect_no_move(giver, piece, voice)

    def test_no_move_if_the_lengths_do_not_fit(self):
        giver = settle(next_note_book("ab"), ahead=0).giver
        self.assertEqual(giver([("a", "a")], ["a"]), "b")
        self.expect_no_move(giver, [], ["a"])
        self.expect_no_move(giver, [("a", "a")], ["a", "a"])
        self.expect_no_move(giver, [("a", "a")] * 3, ["a", "a"])
        giver = settle(repetition_book("abc"), ahead=2).giver
        self.assertEqual((giver.opening, giver.notes), (("a", "a"), 4))
        self.assertEqual(giver([("a", "b")], ["a", "a", "a"]), "c")
        self.expect_no_move(giver, [("a", "b")], ["a", "a", "a", "a"])
        self.expect_no_move(giver, [("a", "b"), ("a", "b")], ["a", "a", "a"])

    def test_no_move_at_unknown_pairs_and_notes(self):
        giver = settle(repetition_book("abc"), ahead=2).giver
        for pair in (("a", "a"), ("x", "b"), ("a", "x"), ("", "")):
            self.expect_no_move(giver, [pair], ["a", "a", "a"])
        for heard in (["x", "a"], ["a", "x"], ["", "a"], ["x", "x"]):
            self.expect_no_move(giver, [("a", "b")], ["a"] + heard)
        # Another note is not looked at.
        self.assertEqual(giver([("a", "b")], ["x", "a", "a"]), "c")
        self.assertEqual(giver([("no", "pair"), ("a", "b")], ["x", "", "a", "a"]), "c")

    def test_no_move_at_a_safe_standing(self):
        # Nothing can go wrong but the beginning.
        book = without(full_book("ab", "xy"), [("open", "b", "x"), ("open", "b", "y")])
        giver = settle(book, ahead=0).giver
        self.assertEqual(giver([], []), "b")
        giver = settle(book, ahead=1).giver
        self.assertIsNone(giver([], ["b"]))
        for ahead in (0, 1):
            giver = settle(book, ahead=ahead).giver
            for pair in book.pairs:
                for heard in product("ab", repeat=ahead):
                    self.expect_no_move(giver, [pair], ["a", *heard])

    def test_a_pair_that_was_held(self):
        book = full_book("ab", "xy")
        left = without(book, [("close", "b", "x"), ("close", "b", "y"), ("pair", "a", "y")])
        giver = settle(left, ahead=0).giver
        self.assertEqual((giver.opening, giver.notes), ((), 1))
        self.assertIsNone(giver([("b", "x")], ["b"]))
        self.assertEqual(giver([("a", "x")], ["a"]), "b")
        self.expect_no_move(giver, [("a", "y")], ["a"])

    def test_the_first_of_several_openings(self):
        # Both a b and b a are lost in the same number of notes, and the given notes decide.
        for given in ("ab", "ba"):
            pairs = [("a", "a"), ("a", "b"), ("b", "a"), ("b", "b")]
            rules = [(word, *pair) for word in ("pair", "open", "close") for pair in pairs]
            giver = settle(Book(list(given), rules), ahead=2).giver
            self.assertEqual((giver.opening, giver.notes), ((given[0], given[0]), 2))

    def test_only_what_it_looks_at_counts(self):
        source = random.Random(85)
        for book, ahead, giver in self.givers(86, 20):
            for piece, voice in plays(book, giver, ahead):
                for many in range(1, len(piece) + 1):
                    heard = voice[:many + ahead]
                    if len(heard) < many + ahead or len(heard) <= len(giver.opening):
                        continue
                    junk = [source.choice([("x", "y"), *book.pairs]) for _ in range(many - 1)] + [piece[many - 1]]
                    noise = [source.choice(["x", "", *book.given]) for _ in range(many)] + last_part(heard, ahead)
                    self.assertEqual(giver(piece[:many], heard), giver(junk, noise))

    def test_arguments_stay_as_they_are(self):
        giver = settle(repetition_book("abc"), ahead=2).giver
        piece, voice = [("a", "b")], ["a", "a", "a"]
        giver(piece, voice)
        self.assertEqual((piece, voice), ([("a", "b")], ["a", "a", "a"]))

    def test_no_answerer_does_better_than_its_notes(self):
        # By hand: the third note must be sung before the first answer fails.
        self.assertEqual(settle(second_next_book(), ahead=1).giver.notes, 3)
        self.assertEqual(settle(countdown_book(3), ahead=2).giver.notes, 4)
        self.assertEqual(settle(last_note_book("ab"), ahead=0).giver.notes, 2)


class ShortVoices(unittest.TestCase):
    def test_the_first_short_silent_voice_is_the_opening(self):
        source = random.Random(87)
        many = 0
        for book in chance_games(source, 80):
            for ahead in (1, 2, 3, 4):
                silent = short_silent_voice(book, ahead)
                if silent is not None:
                    giver = settle(book, ahead=ahead).giver
                    self.assertEqual((giver.opening, giver.notes), (tuple(silent), len(silent)))
                    many += 1
        self.assertGreater(many, 50)

    def test_the_rules_of_the_sample(self):
        giver = settle(sample_book(), ahead=2).giver
        self.assertIn(("open", "l", "r"), RULES)
        self.assertEqual((giver.opening, giver.notes), (("l",), 1))


if __name__ == "__main__":
    unittest.main()
