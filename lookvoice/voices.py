"""Voices and the pieces that answer them."""

from lookvoice.places import Places, first_voice, require_notes
from lookvoice.relations import identity


def behaviour(book, voice):
    """The relation of all places p and q for which some run from p along the voice ends at q."""
    require_notes(book, voice)
    places = Places(book)
    found = identity(places.size)
    for note in voice:
        found = found * places.steps[note]
    return found


def used_by(piece):
    """The rules that a piece uses."""
    if len(piece) == 0:
        return []
    pairs = [("pair", *pair) for pair in piece]
    steps = [("step", *first, *second) for first, second in zip(piece, piece[1:])]
    return [*pairs, ("open", *piece[0]), ("close", *piece[-1]), *steps]


def is_unbroken(book, piece):
    """Whether all rules that the piece uses are in force."""
    return all([rule in book for rule in used_by(piece)])


def hopeful_places(places, voice):
    """For each number of notes of the voice, the places after them from which a closed run leads along the rest."""
    hopeful = {place: True for place in range(places.size) if places.is_closed([place])}
    found = [hopeful]
    for note in reversed(voice):
        rows = places.steps[note].rows
        hopeful = {place: True for place in range(places.size) if any([end in hopeful for end in rows[place]])}
        found.append(hopeful)
    return found[::-1]


def answer(book, voice):
    """The first unbroken piece with this voice, or None if there is none."""
    require_notes(book, voice)
    places = Places(book)
    start, *rest = hopeful_places(places, voice)
    if 0 not in start:
        return None
    piece = []
    place = 0
    for note, hopeful in zip(voice, rest):
        ends = [end for end in places.steps[note].rows[place] if end in hopeful]
        place = ends[0]
        piece.append(places.lasts[place])
    return piece


def silent_voice(book):
    """The first voice that the book does not answer, or None if it answers every voice."""
    places = Places(book)
    return first_voice(
        book.given,
        (0,),
        lambda ends, note: places.follow(ends, note),
        lambda ends: not places.is_closed(ends),
    )
