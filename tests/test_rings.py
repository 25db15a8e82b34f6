"""Points 17 and 18: rings and ring givers."""

import random
import unittest

from games import (
    changing_book, has_closed_run, is_lost, last_note_book, never_games, next_note_book, perturbed, places_of,
    plain_rows, plays, repetition_book, segment_book,
)
from lookvoice.books import Book
from lookvoice.errors import BadAhead, NoMove
from lookvoice.holding import Held, without
from lookvoice.outlooks import RingGiver, outlook
from lookvoice.voices import behaviour, silent_voice
from samples import error_of, everything_of

NEVER = [repetition_book("abc"), repetition_book("abcd"), last_note_book("ab"), last_note_book("abc"),
         changing_book(), segment_book(0), segment_book(1)]
AHEADS = [0, 1, 2, 3, 5, 17, 60]


def sung(block, ahead):
    """The voice of a block, by point 18."""
    head, ring, tail = block
    while len(head + tail) < ahead:
        head += ring
    return list(head + tail)


class Checked:
    """The rings of a book with all positions that can come up, found by the words of point 17."""

    def __init__(self, book):
        self.book = book
        self.rings = outlook(book).rings
        self.blocks = self.rings.blocks
        self.moves = self.rings.moves
        self.rows = [plain_rows(book, head + tail) for head, ring, tail in self.blocks]
        self.coming = []
        self.chains = []
        self.follow([(0, self.rings.first)])

    def follow(self, chain):
        """Follows all chains of moves that begin like this."""
        position = chain[-1]
        if position in chain[:-1]:
            raise ValueError("the chain comes back")
        if position not in self.coming:
            self.coming.append(position)
        place, index = position
        word, what = self.moves[position]
        if word == "end":
            self.chains.append(chain)
        else:
            for end in self.rows[index][place]:
                self.follow(chain + [(end, what)])

    def most_notes(self, ahead):
        """The greatest number of notes, over all chains."""
        sizes = [len(sung(block, ahead)) for block in self.blocks]
        return max(sum(sizes[index] for place, index in chain) + len(self.moves[chain[-1]][1]) for chain in self.chains)

    def voice(self, ahead, piece):
        """The voice that the ring giver sings if the piece answers it, as far as the piece tells."""
        lasts = places_of(self.book)
        index = self.rings.first
        place = 0
        voice = sung(self.blocks[index], ahead)
        begun = 0
        while True:
            word, what = self.moves[(place, index)]
            if word == "end":
                return voice + list(what)
            begun, index = len(voice), what
            voice = voice + sung(self.blocks[index], ahead)
            if len(piece) < begun:
                return voice
            place = lasts.index(piece[begun - 1])


def chance_play(source, book, giver, ahead):
    """One play against answers by chance that may follow, as (piece, voice)."""
    piece, voice = [], []
    while True:
        while len(voice) <= len(piece) + ahead:
            note = giver(list(piece), list(voice))
            if note is None:
                return piece, voice
            voice.append(note)
        pairs = book.after(piece[-1] if piece else None, voice[len(piece)])
        if not pairs:
            return piece, voice
        piece.append(source.choice(pairs))


class RingBlocks(unittest.TestCase):
    def expect_rings(self, book):
        checked = Checked(book)
        self.assertEqual(set(checked.moves), set(checked.coming))
        self.assertIs(checked.blocks.__class__, list)
        self.assertIs(checked.moves.__class__, dict)
        self.assertIn(checked.rings.first, range(len(checked.blocks)))
        for block in checked.blocks:
            self.assertEqual([part.__class__ for part in (block, *block)], [tuple] * 4)
            head, ring, tail = block
            self.assertGreater(min(len(head), len(ring)), 0)
            self.assertEqual(behaviour(book, head).rows, behaviour(book, head + ring).rows)
            self.assertTrue(all(note in book.given for note in head + ring + tail))
        lasts = places_of(book)
        for place, index in checked.coming:
            word, what = checked.moves[(place, index)]
            if word == "end":
                self.assertIs(what.__class__, tuple)
                head, ring, tail = checked.blocks[index]
                for times in range(3):
                    self.assertFalse(has_closed_run(book, lasts[place], head + ring * times + tail + what))
            else:
                self.assertEqual(word, "block")
                self.assertIn(what, range(len(checked.blocks)))
        return checked

    def test_named_books(self):
        for book in NEVER:
            self.expect_rings(book)

    def test_several_blocks_one_after_another(self):
        checked = self.expect_rings(segment_book(1))
        # Each stretch lets one mistake through, and the third one is the first that cannot be answered.
        self.assertGreaterEqual(max(len(chain) for chain in checked.chains), 3)

    def test_a_block_with_a_tail(self):
        checked = self.expect_rings(changing_book())
        self.assertGreater(max(len(tail) for head, ring, tail in checked.blocks), 0)

    def test_books_by_chance(self):
        many = {}
        for book in never_games(random.Random(131), 120):
            many[len(self.expect_rings(book).blocks)] = True
        self.assertGreater(len(many), 1)

    def test_larger_books(self):
        source = random.Random(132)
        self.expect_rings(last_note_book("abcd"))
        found = 0
        while found < 10:
            book = perturbed(source, source.choice([last_note_book("abcd"), repetition_book("abcd")]))
            if silent_voice(book) is None and not outlook(book).enough:
                self.expect_rings(book)
                found += 1

    def test_a_change_of_what_is_returned(self):
        rings = outlook(segment_book(1)).rings
        blocks, moves = rings.blocks, rings.moves
        voice = chance_play(random.Random(1), segment_book(1), rings.against(4), 4)[1]
        rings.blocks.clear()
        rings.blocks.append("x")
        rings.moves.clear()
        rings.moves[(0, 0)] = ("end", ())
        self.assertEqual((rings.blocks, rings.moves), (blocks, moves))
        giver = rings.against(4)
        rings.moves.clear()
        self.assertEqual(chance_play(random.Random(1), segment_book(1), giver, 4)[1], voice)

    def test_while_rules_are_held(self):
        book = segment_book(1)
        before = everything_of(book)
        for rule in (("step", "a", "a0", "c", "0"), ("pair", "c", "1"), ("close", "b", "a0"), ("open", "b", "b0")):
            left = without(book, [rule])
            with Held(book, rule):
                inside, error = None, error_of(lambda: outlook(book))
                if error is None:
                    inside = outlook(book).rings
            self.assertEqual(everything_of(book), before)
            if inside is None:
                self.assertEqual(error.voice, error_of(lambda: outlook(left)).voice)
            else:
                again = outlook(left).rings
                self.assertEqual((inside.blocks, inside.moves), (again.blocks, again.moves))
                self.assertEqual(inside.against(3).notes, again.against(3).notes)

    def test_rules_that_are_held_later(self):
        book = segment_book(1)
        rings = outlook(book).rings
        giver = rings.against(2)
        first = chance_play(random.Random(2), segment_book(1), giver, 2)
        blocks, moves = rings.blocks, rings.moves
        for rule in book.rules:
            with Held(book, rule):
                self.assertEqual((rings.blocks, rings.moves), (blocks, moves))
                self.assertEqual(chance_play(random.Random(2), segment_book(1), giver, 2), first)
                self.assertEqual(chance_play(random.Random(2), segment_book(1), rings.against(2), 2), first)


class Against(unittest.TestCase):
    def test_out_of_range(self):
        rings = outlook(last_note_book("ab")).rings
        for ahead in (-1, 61, 62, -60, 10 ** 29 + 1, -10 ** 29):
            error = error_of(lambda: rings.against(ahead))
            self.assertIs(error.__class__, BadAhead)
            self.assertEqual(error.ahead, ahead)

    def test_all_look_aheads(self):
        for book in NEVER:
            rings = outlook(book).rings
            for ahead in range(61):
                giver = rings.against(ahead=ahead)
                self.assertIs(giver.__class__, RingGiver)
                self.assertEqual(giver.ahead, ahead)

    def test_notes(self):
        for book in NEVER + never_games(random.Random(133), 60):
            checked = Checked(book)
            for ahead in AHEADS:
                self.assertEqual(checked.rings.against(ahead).notes, checked.most_notes(ahead))


class RingGivers(unittest.TestCase):
    def expect_lost(self, checked, ahead, giver, piece, voice):
        self.assertTrue(is_lost(checked.book, piece, voice))
        self.assertLessEqual(len(voice), giver.notes)
        expected = checked.voice(ahead, piece)
        self.assertEqual(voice, expected[:len(voice)])

    def test_all_plays_of_small_look_aheads(self):
        for book in [repetition_book("abc"), last_note_book("ab"), *never_games(random.Random(134), 40)]:
            checked = Checked(book)
            for ahead in (0, 1, 2):
                giver = checked.rings.against(ahead)
                if giver.notes <= 9:
                    for piece, voice in plays(book, giver, ahead):
                        self.expect_lost(checked, ahead, giver, piece, voice)

    def test_plays_by_chance(self):
        source = random.Random(135)
        for book in NEVER + never_games(random.Random(136), 60):
            checked = Checked(book)
            for ahead in AHEADS:
                giver = checked.rings.against(ahead)
                for _ in range(4):
                    self.expect_lost(checked, ahead, giver, *chance_play(source, book, giver, ahead))

    def test_some_play_has_as_many_notes_as_it_says(self):
        for book in (repetition_book("abc"), last_note_book("ab"), segment_book(0), segment_book(1)):
            checked = Checked(book)
            for ahead in (0, 1, 3, 8):
                giver = checked.rings.against(ahead)
                source = random.Random(137)
                lengths = [len(chance_play(source, book, giver, ahead)[1]) for _ in range(200)]
                self.assertEqual(max(lengths), giver.notes)

    def test_whole_voices(self):
        # A giver that hears more of the answers than it needs sings the whole voice of point 18, and then ends.
        source = random.Random(138)
        for book in NEVER:
            checked = Checked(book)
            for ahead in (0, 3, 20):
                giver = checked.rings.against(ahead)
                piece, voice = chance_play(source, book, giver, ahead)
                piece = piece + [source.choice(book.pairs) for _ in range(giver.notes)]
                whole = checked_voice(checked, ahead, piece)
                if whole is not None:
                    for many, note in enumerate(whole):
                        self.assertEqual(giver(piece, whole[:many]), note)
                    for many in range(len(whole), len(whole) + 5):
                        self.assertIsNone(giver(piece, ["a"] * many))

    def test_each_block_has_at_least_as_many_notes_as_are_heard_ahead(self):
        rings = outlook(last_note_book("ab")).rings
        for ahead in range(61):
            first = sung(rings.blocks[rings.first], ahead)
            self.assertGreaterEqual(len(first), ahead)
            giver = rings.against(ahead)
            for many in range(len(first)):
                self.assertEqual(giver([], first[:many]), first[many])

    def test_only_the_named_pairs_and_the_number_of_notes_count(self):
        source = random.Random(139)
        for book in NEVER + never_games(random.Random(140), 20):
            checked = Checked(book)
            for ahead in (0, 2, 7):
                giver = checked.rings.against(ahead)
                piece, voice = chance_play(source, book, giver, ahead)
                begun = block_beginnings(checked, ahead, piece)
                junk = [pair if at + 1 in begun else source.choice([("x", "y"), ("", ""), *book.pairs])
                        for at, pair in enumerate(piece)]
                for many in range(len(voice)):
                    noise = [source.choice(["x", "", *book.given]) for _ in range(many)]
                    self.assertEqual(giver(junk, noise), voice[many])
                    self.assertEqual(giver(voice=tuple(noise), piece=tuple(junk)), voice[many])

    def test_arguments_stay_as_they_are(self):
        giver = outlook(last_note_book("ab")).rings.against(0)
        piece, voice = [("a", "a")], ["a"]
        giver(piece, voice)
        self.assertEqual((piece, voice), ([("a", "a")], ["a"]))


def checked_voice(checked, ahead, piece):
    """The whole voice, or None if the piece leads to a position without a move."""
    try:
        return checked.voice(ahead, piece)
    except KeyError:
        return None


def block_beginnings(checked, ahead, piece):
    """The numbers of notes before the blocks that are sung while the piece is answered."""
    lasts = places_of(checked.book)
    place, index, begun, found = 0, checked.rings.first, 0, []
    while True:
        word, what = checked.moves[(place, index)]
        if word == "end":
            return found
        begun += len(sung(checked.blocks[index], ahead))
        found.append(begun)
        index = what
        if len(piece) < begun:
            return found
        place = lasts.index(piece[begun - 1])


class NoMoves(unittest.TestCase):
    def expect_no_move(self, giver, piece, many):
        for as_kind in (list, tuple):
            error = error_of(lambda: giver(as_kind(piece), as_kind(["a"] * many)))
            self.assertIs(error.__class__, NoMove)

    def beginnings(self, ahead):
        """For each book its giver, the notes of the first block and those of the first two, and the places between."""
        for book in NEVER:
            checked = Checked(book)
            first = checked.rings.first
            word, then = checked.moves[(0, first)]
            self.assertEqual(word, "block")
            many = len(sung(checked.blocks[first], ahead))
            yield checked, checked.rings.against(ahead), many, many + len(sung(checked.blocks[then], ahead)), then

    def test_a_piece_that_is_too_short(self):
        for ahead in (0, 1, 4):
            for checked, giver, many, more, _ in self.beginnings(ahead):
                for short in range(many):
                    piece = checked.book.pairs[:1] * short
                    # Up to the end of the second block no pair is needed.
                    self.assertIn(giver(piece, ["a"] * (more - 1)), checked.book.given)
                    for beyond in (more, more + 1, more + 70):
                        self.expect_no_move(giver, piece, beyond)

    def test_a_pair_that_is_not_in_force(self):
        for ahead in (0, 1, 4):
            for checked, giver, many, more, _ in self.beginnings(ahead):
                for pair in (("x", "y"), ("a", "no"), ("", ""), ("no", "a")):
                    piece = checked.book.pairs[:1] * (many - 1) + [pair] + checked.book.pairs[:1]
                    self.expect_no_move(giver, piece, more)
                    self.assertIn(giver(piece, ["a"] * (more - 1)), checked.book.given)

    def test_a_position_without_a_move(self):
        tried = 0
        for checked, giver, many, more, then in self.beginnings(2):
            for place, pair in enumerate(checked.book.pairs, start=1):
                if (place, then) not in checked.moves:
                    self.expect_no_move(giver, [pair] * many, more)
                    tried += 1
        self.assertGreater(tried, 10)

    def test_a_pair_that_was_held(self):
        rules = last_note_book("ab").rules
        book = one_pair_more(rules)
        with Held(book, ("pair", "a", "v")):
            rings = outlook(book).rings
        giver = rings.against(0)
        first = len(sung(rings.blocks[rings.first], 0))
        then = len(sung(rings.blocks[rings.moves[(0, rings.first)][1]], 0))
        self.expect_no_move(giver, [("a", "v")] * first, first + then)

    def test_enough_books_have_no_rings(self):
        self.assertIsNone(outlook(next_note_book("ab")).rings)


def one_pair_more(rules):
    """A book of these rules with one more pair, which may do everything."""
    pairs = [rule[1:] for rule in rules if rule[0] == "pair"] + [("a", "v")]
    more = [("pair", "a", "v"), ("open", "a", "v"), ("close", "a", "v")]
    return Book(["a", "b"], rules + more + [("step", *pair, "a", "v") for pair in pairs])


if __name__ == "__main__":
    unittest.main()
