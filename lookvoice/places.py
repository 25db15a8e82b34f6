"""What the other files share: the places of a book, and the search for the first voice of a kind."""

from lookvoice.errors import UnknownNote
from lookvoice.relations import Relation


def require_notes(book, voice):
    """Raises UnknownNote for the first note of the voice that is not a given note of the book."""
    for note in voice:
        if note not in book.given:
            raise UnknownNote(note)


def step_relation(book, numbers, note):
    """The relation that leads from each place to the pairs over the note that may follow it."""
    return Relation([[numbers[pair] for pair in book.after(last, note)] for last in numbers])


class Places:
    """The places of a book, as the rules are that are in force when this is made."""

    def __init__(self, book):
        lasts = [None] + book.pairs
        numbers = {last: place for place, last in enumerate(lasts)}
        self.size = len(lasts)
        self.given = book.given
        self.lasts = lasts
        self.numbers = numbers
        self.steps = {note: step_relation(book, numbers, note) for note in book.given}
        self._closed = {place: True for place, last in enumerate(lasts) if last is None or ("close", *last) in book}

    def follow(self, ends, note):
        """Where runs may end that go on by the note from these places: nowhere if the book does not have it."""
        if note not in self.steps:
            return ()
        return self.steps[note].reach(ends)

    def is_closed(self, ends):
        """Whether a run that ends at one of these places is closed."""
        return any([place in self._closed for place in ends])

    def can_answer(self, voice):
        """Whether the book answers the voice."""
        ends = (0,)
        for note in voice:
            ends = self.follow(ends, note)
        return self.is_closed(ends)


def first_voice(notes, start, lead, is_sought):
    """The first voice, in the order of voices, that leads from the start to a sought state; None if there is none.

    It must lead to finitely many states: `lead` gives the state to which a note leads from a state.
    """
    voices = {start: []}
    states = [start]
    at = 0
    while at < len(states):
        state = states[at]
        if is_sought(state):
            return voices[state]
        for note in notes:
            led = lead(state, note)
            # The first voice that leads to a state comes first whatever follows, so no other one is kept.
            if led not in voices:
                voices[led] = voices[state] + [note]
                states.append(led)
        at += 1
    return None
