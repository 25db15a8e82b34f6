"""The outlook of a book: an answerer with some look-ahead, or a giver against every look-ahead."""

from lookvoice.asking import asked_place, first_answer, require_ahead, require_answer
from lookvoice.errors import BadWindow, NoMove, Silent
from lookvoice.lasting import Behaviours
from lookvoice.masks import Masks, mask_of, places_in
from lookvoice.places import Places, require_notes
from lookvoice.spoiling import coming_positions, ending_moves, first_block, spoiling_moves
from lookvoice.voices import silent_voice

MOST_AHEAD = 60


class BlockAnswerer:
    """The block answerer. It ends each block at a place from which it can go on, whatever block comes next."""

    def __init__(self, masks, length, spoiled):
        self.length = length
        self.ahead = 2 * length - 1
        self._masks = masks
        self._spoiled = {mask: True for mask in spoiled}

    def __call__(self, piece, window):
        place = asked_place(self._masks.places, piece, window, self.ahead)
        rest = self.length - len(piece) % self.length
        if len(window) < rest + self.length:
            # The voice ends before the next block is whole, so all that is left of it has been heard.
            good = self._masks.before_all(self._masks.closed, window[1:])
        else:
            aims = self._safe_places(window[rest:rest + self.length])
            good = self._masks.before_all(mask_of(aims), window[1:rest])
        return require_answer(first_answer(self._masks, place, window[0], good))

    def safe(self, block):
        """The places from which the answerer can answer the block and then go on, in ascending order."""
        if len(block) != self.length:
            raise BadWindow("a block of a wrong length")
        require_notes(self._masks.places, block)
        return tuple(self._safe_places(block))

    def _safe_places(self, block):
        ends = self._masks.singles
        for note in block:
            ends = [self._masks.after(mask, note) for mask in ends]
        return [place for place, mask in enumerate(ends) if mask not in self._spoiled]


def sung_block(block, ahead):
    """The block with its ring as few times as give it at least `ahead` notes."""
    head, ring, tail = block
    lacking = max(0, ahead - len(head) - len(tail))
    times = (lacking + len(ring) - 1) // len(ring)
    return head + ring * times + tail


class Rings:
    """Ring blocks, and the moves by which a giver that sings them wins against every look-ahead."""

    def __init__(self, masks, behaviours, moves, first):
        positions = coming_positions(behaviours, moves, first)
        indexes = {}
        for place, number in positions:
            indexes.setdefault(number, len(indexes))
        self.first = indexes[first]
        self._numbers = masks.places.numbers
        self._blocks = [behaviours.ring_block(number) for number in indexes]
        self._moves = {}
        self._ends = {}
        for place, number in positions:
            mask = behaviours.rows[number][place]
            word, what = moves[mask]
            position = (place, indexes[number])
            self._moves[position] = (word, indexes[what] if word == "block" else what)
            self._ends[position] = places_in(mask)

    @property
    def blocks(self):
        """The list of the ring blocks (head, ring, tail)."""
        return list(self._blocks)

    @property
    def moves(self):
        """The dict of the moves at the positions that can come up."""
        return {position: self._moves[position] for position in self._moves}

    def against(self, ahead):
        """The ring giver against the look-ahead."""
        require_ahead(ahead, MOST_AHEAD)
        sung = [sung_block(block, ahead) for block in self._blocks]
        return RingGiver(ahead, self.first, sung, self.moves, self._numbers, self._most_notes(sung))

    def _most_notes(self, sung):
        """The greatest number of notes that a voice can have if the blocks are sung like this."""
        behind = {}
        # Each position stands before those to which its move leads.
        for position in reversed(list(self._moves)):
            word, what = self._moves[position]
            if word == "end":
                behind[position] = len(what)
            else:
                behind[position] = len(sung[what]) + max([int(behind[(end, what)]) for end in self._ends[position]])
        return len(sung[self.first]) + behind[(0, self.first)]


class RingGiver:
    """The ring giver. It looks only at the number of notes and at the pairs before the blocks."""

    def __init__(self, ahead, first, sung, moves, numbers, notes):
        self.ahead = ahead
        self.notes = notes
        self._first = first
        self._sung = sung
        self._moves = moves
        self._numbers = numbers

    def __call__(self, piece, voice):
        begun = 0
        index = self._first
        while len(voice) >= begun + len(self._sung[index]):
            word, what = self._move(piece, begun, index)
            begun += len(self._sung[index])
            if word == "end":
                return what[len(voice) - begun] if len(voice) < begun + len(what) else None
            index = what
        return self._sung[index][len(voice) - begun]

    def _move(self, piece, begun, index):
        """The move behind the block that has begun after so many notes."""
        if len(piece) < begun:
            raise NoMove("the pair before the block is not known")
        place = 0 if begun == 0 else self._numbers.get(piece[begun - 1])
        if (place, index) not in self._moves:
            raise NoMove("no such position")
        return self._moves[(place, index)]


class Outlook:
    """What some look-ahead can do for a book: either the answerer or the rings are None."""

    def __init__(self, answerer, rings):
        self.enough = rings is None
        self.answerer = answerer
        self.rings = rings


def block_answerer(masks, behaviours, endings):
    """The block answerer with the shortest blocks, if some look-ahead is enough."""
    length = 1
    numbers = behaviours.led_from([0])
    moves = spoiling_moves(endings, behaviours, numbers)
    # Long blocks have lasting behaviours only, and with these the start is not spoiled.
    while first_block(behaviours, numbers, moves) is not None:
        length += 1
        numbers = behaviours.led_from(numbers)
        moves = spoiling_moves(endings, behaviours, numbers)
    return BlockAnswerer(masks, length, moves)


def outlook_of(masks):
    """The outlook of a book that answers every voice."""
    behaviours = Behaviours(masks)
    endings = ending_moves(masks, behaviours)
    moves = spoiling_moves(endings, behaviours, behaviours.lasting)
    first = first_block(behaviours, behaviours.lasting, moves)
    if first is None:
        return Outlook(block_answerer(masks, behaviours, endings), None)
    return Outlook(None, Rings(masks, behaviours, moves, first))


def outlook(book):
    """Whether some look-ahead is enough for the book, with the block answerer or the rings."""
    voice = silent_voice(book)
    if voice is not None:
        raise Silent(voice)
    return outlook_of(Masks(Places(book)))
