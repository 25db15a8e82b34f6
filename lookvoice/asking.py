"""What givers and answerers share: the checks of what they are asked, and the choice of an answer."""

from lookvoice.errors import BadAhead, BadWindow, NoAnswer, UnknownPair
from lookvoice.masks import places_in
from lookvoice.places import require_notes


def require_ahead(ahead, most):
    """Raises BadAhead if the look-ahead is not in 0 to `most`."""
    if not 0 <= ahead <= most:
        raise BadAhead(ahead)


def asked_place(places, piece, window, ahead):
    """The place of the last pair of the piece. Raises the first error in what an answerer is asked."""
    if not 1 <= len(window) <= ahead + 1:
        raise BadWindow("a window of a wrong length")
    require_notes(places, window)
    if len(piece) == 0:
        return 0
    if piece[-1] not in places.numbers:
        raise UnknownPair(piece[-1])
    return places.numbers[piece[-1]]


def first_answer(masks, place, note, good):
    """The first answer to the note whose pair may follow the place and is one of the good places, or None."""
    ends = places_in(masks.rows[note][place] & good)
    if len(ends) == 0:
        return None
    return masks.places.lasts[ends[0]][1]


def require_answer(answer):
    """The answer, if there is one."""
    if answer is None:
        raise NoAnswer("no answer keeps the rules")
    return answer
