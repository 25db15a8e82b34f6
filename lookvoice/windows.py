"""Settling whether a look-ahead is enough, with a table for the second voice or a giver that beats it."""

from lookvoice.asking import asked_place, first_answer, require_ahead, require_answer
from lookvoice.errors import NoMove
from lookvoice.masks import Masks
from lookvoice.places import Places
from lookvoice.standings import Standings, all_voices

MOST_AHEAD = 6


class TableAnswerer:
    """The table answerer. It looks only at the last pair of the piece and at the window."""

    def __init__(self, masks, standings):
        closing = standings.closing
        self.ahead = standings.ahead
        self._masks = masks
        # For what is heard behind the note that is answered: the places of the pairs that may answer it. Behind a
        # short window the voice ends, so there a closed run is enough.
        self._good = {voice: standings.kept.get(voice, closing[voice]) for voice in closing}

    def __call__(self, piece, window):
        place = asked_place(self._masks.places, piece, window, self.ahead)
        return require_answer(self._answer(place, tuple(window)))

    def table(self):
        """The rows (last pair, window, answer), for all last pairs and windows for which there is an answer."""
        windows = all_voices(self._masks.given, self.ahead + 1)[1:]
        lasts = self._masks.places.lasts
        rows = [(last, window, self._answer(place, window)) for place, last in enumerate(lasts) for window in windows]
        return [row for row in rows if row[2] is not None]

    def _answer(self, place, window):
        return first_answer(self._masks, place, window[0], self._good[window[1:]])


class TableGiver:
    """The table giver. It sings the opening, and then what makes every answerer lose in the fewest notes."""

    def __init__(self, masks, standings):
        self.ahead = standings.ahead
        self._numbers = masks.places.numbers
        self._standings = standings
        if standings.silent is None:
            fewest, opening = quickest_opening(standings)
            self.opening = opening
            self.notes = self.ahead + fewest
        else:
            self.opening = standings.silent
            self.notes = len(standings.silent)

    def __call__(self, piece, voice):
        sung = len(voice)
        if sung <= len(self.opening):
            self._require_opening(piece, voice)
        if sung < len(self.opening):
            return self.opening[sung]
        if len(self.opening) == self.ahead:
            return self._move(piece, voice)
        if sung > len(self.opening):
            raise NoMove("the voice has ended before")
        return None

    def _require_opening(self, piece, voice):
        if len(piece) > 0 or tuple(voice) != self.opening[:len(voice)]:
            raise NoMove("not in the opening")

    def _move(self, piece, voice):
        """What follows the opening, by the standing."""
        if len(voice) != len(piece) + self.ahead:
            raise NoMove("the piece does not fit the voice")
        place = 0 if len(piece) == 0 else self._numbers.get(piece[-1])
        heard = tuple(voice[len(piece):])
        if place not in self._standings.losses.get(heard, {}):
            raise NoMove("not a lost standing")
        return self._standings.move(place, heard)


def quickest_opening(standings):
    """The fewest notes in which a standing of the start is lost, with the first voice heard at such a standing."""
    lost = [(standings.losses[voice][0], voice) for voice in standings.voices if 0 in standings.losses[voice]]
    fewest = min([int(notes) for notes, voice in lost])
    return [(notes, voice) for notes, voice in lost if notes == fewest][0]


class Hearing:
    """What hearing so many notes ahead leads to: either the answerer or the giver is None."""

    def __init__(self, ahead, answerer, giver):
        self.ahead = ahead
        self.enough = giver is None
        self.answerer = answerer
        self.giver = giver


def hearing_of(masks, ahead):
    """The hearing with a look-ahead that is in range."""
    standings = Standings(masks, ahead)
    if standings.is_enough():
        return Hearing(ahead, TableAnswerer(masks, standings), None)
    return Hearing(ahead, None, TableGiver(masks, standings))


def settle(book, *, ahead):
    """Whether the look-ahead is enough for the book, with the table answerer or the table giver."""
    require_ahead(ahead, MOST_AHEAD)
    return hearing_of(Masks(Places(book)), ahead)
