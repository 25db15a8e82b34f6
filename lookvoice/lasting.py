"""The behaviours of all voices, and those among them that voices of unbounded length have."""

from lookvoice.circles import circling
from lookvoice.places import first_voice

BEFORE_ALL = -1


class Behaviours:
    """The behaviours of all voices. Each has a number, in the order of the first voices that have them.

    `rows` has for each behaviour a tuple: for each place the mask of the places at which the runs from it end.
    `lasting` lists the numbers of the lasting behaviours.
    """

    def __init__(self, masks):
        self._given = masks.given
        self.rows = []
        self._leads = []
        self._origins = []
        self._explore(masks)
        self._tails = {number: None for number in circling(self._leads)}
        self._lengthen_tails()
        self.lasting = [number for number in range(len(self.rows)) if number in self._tails]

    def led_from(self, numbers):
        """The numbers of the behaviours to which one more note leads from these behaviours."""
        return list({led: True for number in numbers for led in self._leads[number]})

    def ring_block(self, number):
        """A head, a ring and a tail that have the lasting behaviour, however often the ring is sung."""
        tail = []
        while self._tails[number] is not None:
            number, note = self._tails[number]
            tail = [note] + tail
        return tuple(self._first_voice(number)), tuple(self._ring(number)), tuple(tail)

    def _explore(self, masks):
        start = tuple(masks.singles)
        numbers = {start: 0}
        self.rows.append(start)
        self._origins.append(None)
        at = 0
        while at < len(self.rows):
            found = []
            for note in self._given:
                led = tuple([masks.after(ends, note) for ends in self.rows[at]])
                if led not in numbers:
                    numbers[led] = len(numbers)
                    self.rows.append(led)
                    self._origins.append((at, note))
                found.append(numbers[led])
            self._leads.append(found)
            at += 1

    def _lengthen_tails(self):
        """Gives each behaviour to which circling ones lead the last step of a shortest way there."""
        waiting = list(self._tails)
        at = 0
        while at < len(waiting):
            number = waiting[at]
            for note, led in zip(self._given, self._leads[number]):
                if led not in self._tails:
                    self._tails[led] = (number, note)
                    waiting.append(led)
            at += 1

    def _first_voice(self, number):
        """The first voice that has the behaviour."""
        voice = []
        while self._origins[number] is not None:
            number, note = self._origins[number]
            voice = [note] + voice
        return voice

    def _ring(self, number):
        """The first voice, not the empty one, that leads from the behaviour back to it."""
        # The way begins before the behaviour, so that being there in the beginning does not count.
        return first_voice(
            self._given,
            BEFORE_ALL,
            lambda last, note: self._leads[number if last == BEFORE_ALL else last][self._given.index(note)],
            lambda last: last == number,
        )
