"""Standings: which of them are safe, and in how many notes the others are lost."""

from lookvoice.masks import places_in

# The mask of place 0 alone.
AT_START = 1


def all_voices(notes, most):
    """All voices of at most so many notes, as tuples, in the order of voices."""
    voices = [()]
    longest = [()]
    for _ in range(most):
        longest = [(*voice, note) for voice in longest for note in notes]
        voices = voices + longest
    return voices


def closing_places(masks, voices):
    """For each voice the places from which a closed run leads along it. The voices stand in the order of voices."""
    closing = {(): masks.closed}
    for voice in voices[1:]:
        closing[voice] = masks.before(closing[voice[1:]], voice[0])
    return closing


class Standings:
    """The standings with a look-ahead.

    `closing` has, for each voice of at most `ahead` notes, the places from which a closed run leads along it.
    `silent` is the first voice of fewer than `ahead` notes that the book does not answer, or None. For each voice of
    `ahead` notes, `kept` has the places at which the standing is safe, and `losses` the number of notes in which it
    is lost at each of the other places.
    """

    def __init__(self, masks, ahead):
        voices = all_voices(masks.given, ahead)
        self._masks = masks
        self.ahead = ahead
        self.voices = [voice for voice in voices if len(voice) == ahead]
        self.closing = closing_places(masks, voices)
        unanswered = [voice for voice in voices if len(voice) < ahead and self.closing[voice] & AT_START == 0]
        self.silent = unanswered[0] if len(unanswered) > 0 else None
        self.kept = {voice: masks.everywhere for voice in self.voices}
        self.losses = {voice: {} for voice in self.voices}
        self._lose_all()

    def is_enough(self):
        """Whether the look-ahead is enough."""
        return self.silent is None and all([self.kept[voice] & AT_START > 0 for voice in self.voices])

    def move(self, place, voice):
        """The first note by which the standing is lost in the fewest notes, or None if it is lost in 0 notes."""
        notes = self.losses[voice][place]
        if notes == 0:
            return None
        return [note for note in self._masks.given if self._loses(place, voice, note, notes)][0]

    def _loses(self, place, voice, note, notes):
        """Whether every answer, if the note is sung next, leads to a standing that is lost in fewer notes."""
        heard = (*voice, note)
        ends = places_in(self._masks.rows[heard[0]][place])
        losses = self.losses[heard[1:]]
        return all([end in losses and losses[end] < notes for end in ends])

    def _lose_all(self):
        """Loses the standings by the numbers of notes, all those of one number at once."""
        lost = {voice: self._masks.everywhere & ~self.closing[voice] for voice in self.voices}
        notes = 0
        # In the first round every voice stands in `lost`, as a note without answers loses whatever is heard behind it.
        while len(lost) > 0:
            for voice in lost:
                self.kept[voice] = self.kept[voice] & ~lost[voice]
                self.losses[voice].update({place: notes for place in places_in(lost[voice])})
            notes += 1
            lost = self._lost_next(list(lost))

    def _lost_next(self, changed):
        """For each voice the places that are lost next, if only those with the changed voices have just been lost."""
        found = {}
        for later in changed:
            for note in self._masks.given:
                heard = (note, *later)
                voice = heard[:-1]
                gone = self.kept[voice] & ~self._masks.before(self.kept[later], note)
                if gone > 0:
                    found[voice] = found.get(voice, 0) | gone
        return found
