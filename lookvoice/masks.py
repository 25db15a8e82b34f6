"""Sets of places as numbers: a place is in the set if the bit of its number is set."""


def mask_of(places):
    """The set of these places, each of them given once."""
    return sum([1 << place for place in places])


def places_in(mask):
    """The places of the set in ascending order."""
    return [place for place in range(mask.bit_length()) if mask >> place & 1 == 1]


class Masks:
    """How the notes lead from sets of places to sets of places. What has been reckoned once is kept."""

    def __init__(self, places):
        self.places = places
        self.given = places.given
        self.singles = [1 << place for place in range(places.size)]
        self.everywhere = mask_of(list(range(places.size)))
        self.closed = mask_of([place for place in range(places.size) if places.is_closed([place])])
        self.rows = {note: [mask_of(row) for row in places.steps[note].rows] for note in places.given}
        self._over = {note: mask_of(places.steps[note].reach(list(range(places.size)))) for note in places.given}
        self._after = {note: {} for note in places.given}
        self._before = {note: {} for note in places.given}

    def after(self, starts, note):
        """The places that may follow one of these places over the note."""
        known = self._after[note]
        if starts not in known:
            known[starts] = self._reckon_after(starts, note)
        return known[starts]

    def before(self, ends, note):
        """The places that one of these places may follow over the note."""
        known = self._before[note]
        # Places over other notes are left out first, so that few different sets remain.
        aims = ends & self._over[note]
        if aims not in known:
            known[aims] = mask_of([place for place, row in enumerate(self.rows[note]) if row & aims > 0])
        return known[aims]

    def before_all(self, ends, voice):
        """The places from which some run along the voice ends at one of these places."""
        for note in reversed(voice):
            ends = self.before(ends, note)
        return ends

    def _reckon_after(self, starts, note):
        found = 0
        for place in places_in(starts):
            found = found | self.rows[note][place]
        return found
