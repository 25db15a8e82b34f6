"""Points 9 and 15: the behaviours of all voices, and which of them are lasting."""

import random
import unittest

from games import answered_games, named_books, never_games, plain_rows
from lookvoice.circles import circling
from lookvoice.lasting import Behaviours
from lookvoice.masks import Masks, places_in
from lookvoice.places import Places
from samples import chance_book, full_book


def behaviours_of(book):
    return Behaviours(Masks(Places(book)))


def rows_of(book, voice):
    """The rows of the behaviour of the voice, as sorted lists."""
    return [sorted(row) for row in plain_rows(book, voice)]


def plain_behaviours(book):
    """The behaviours of all voices with what each note leads to, by the words of point 9."""
    def key(rows):
        return tuple(tuple(row) for row in rows)

    start = key(rows_of(book, []))
    steps = {note: rows_of(book, [note]) for note in book.given}
    leads, waiting = {}, [start]
    while waiting:
        rows = waiting.pop()
        if rows not in leads:
            leads[rows] = [key([sorted({end for one in row for end in steps[note][one]}) for row in rows])
                           for note in book.given]
            waiting.extend(leads[rows])
    return start, leads


def unlasting(start, leads):
    """The behaviours that only short voices have: those to which no way leads that goes on back for ever."""
    gone = []
    while True:
        fresh = [one for one in leads if one not in gone
                 and not any(one in leads[other] for other in leads if other not in gone)]
        if not fresh:
            return gone
        gone.extend(fresh)


class Circling(unittest.TestCase):
    def plain(self, leads):
        """The numbers that can be reached again from themselves."""
        found = []
        for number in range(len(leads)):
            seen, waiting = set(), list(leads[number])
            while waiting:
                one = waiting.pop()
                if one not in seen:
                    seen.add(one)
                    waiting.extend(leads[one])
            if number in seen:
                found.append(number)
        return found

    def test_by_hand(self):
        self.assertEqual(sorted(circling([[]])), [])
        self.assertEqual(sorted(circling([[0]])), [0])
        self.assertEqual(sorted(circling([[1], [2], [1]])), [1, 2])
        self.assertEqual(sorted(circling([[1], [2], [3], [1, 4], [4, 5], []])), [1, 2, 3, 4])

    def test_graphs_by_chance(self):
        source = random.Random(171)
        for _ in range(400):
            many = source.randrange(1, 12)
            leads = [[source.randrange(many) for _ in range(source.randrange(3))] for _ in range(many)]
            # All numbers must be reached from 0, so each one is reached from a smaller one.
            for number in range(1, many):
                leads[source.randrange(number)].append(number)
            self.assertEqual(sorted(circling(leads)), self.plain(leads))

    def test_a_long_way_round(self):
        many = 3000
        self.assertEqual(len(circling([[(number + 1) % many] for number in range(many)])), many)
        self.assertEqual(len(circling([[number + 1] for number in range(many)] + [[]])), 0)


class Lasting(unittest.TestCase):
    def books(self, seed):
        source = random.Random(seed)
        small = [chance_book(source, "ab", "xyz", share) for share in (25, 35, 45, 55) for _ in range(8)]
        return named_books() + answered_games(source, 30) + never_games(source, 20) + small

    def test_all_behaviours(self):
        for book in self.books(172):
            found = [[places_in(mask) for mask in rows] for rows in behaviours_of(book).rows]
            start, leads = plain_behaviours(book)
            self.assertEqual(len(found), len(leads))
            self.assertEqual({tuple(map(tuple, rows)) for rows in found}, set(leads))

    def test_lasting_behaviours(self):
        for book in self.books(173):
            behaviours = behaviours_of(book)
            start, leads = plain_behaviours(book)
            if len(leads) < 100:
                lasting = [tuple(tuple(places_in(mask)) for mask in behaviours.rows[number])
                           for number in behaviours.lasting]
                self.assertEqual(set(lasting), set(leads) - set(unlasting(start, leads)))

    def test_ring_blocks(self):
        tails = {}
        for book in self.books(174):
            behaviours = behaviours_of(book)
            for number in behaviours.lasting[:60]:
                head, ring, tail = behaviours.ring_block(number)
                self.assertGreater(min(len(head), len(ring)), 0)
                self.assertEqual(rows_of(book, head), rows_of(book, head + ring))
                self.assertEqual([places_in(mask) for mask in behaviours.rows[number]], rows_of(book, head + tail))
                tails[len(tail)] = True
        self.assertGreater(len(tails), 2)

    def test_what_a_note_leads_to(self):
        for book in (full_book("ab", "xy"), *answered_games(random.Random(175), 20)):
            behaviours = behaviours_of(book)
            numbers = [0]
            for many in range(5):
                voices = [[]]
                for _ in range(many):
                    voices = [voice + [note] for voice in voices for note in book.given]
                rows = [[places_in(mask) for mask in behaviours.rows[number]] for number in numbers]
                self.assertEqual(len(rows), len({str(row) for row in rows}))
                self.assertEqual({str(row) for row in rows}, {str(rows_of(book, voice)) for voice in voices})
                numbers = behaviours.led_from(numbers)


if __name__ == "__main__":
    unittest.main()
