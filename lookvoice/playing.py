"""Letting a giver and an answerer play."""

from lookvoice.errors import NoAnswer


class Singer:
    """A giver that sings a voice, whatever is answered."""

    def __init__(self, voice):
        self.voice = tuple(voice)

    def __call__(self, piece, voice):
        if len(voice) < len(self.voice):
            return self.voice[len(voice)]
        return None


def answer_or_none(answerer, piece, window):
    """The answer, or None if the answerer has none."""
    try:
        return answerer(piece, window)
    except NoAnswer:
        return None


def play(giver, answerer, *, ahead, limit=60):
    """Lets both play, and yields the pairs of the notes and their answers, the last one with None if there is none."""
    piece = []
    voice = []
    has_ended = False
    while True:
        while not has_ended and len(voice) <= len(piece) + ahead:
            note = giver(list(piece), list(voice)) if len(voice) < limit else None
            if note is None:
                has_ended = True
            else:
                voice.append(note)
        # No note has been asked for that the answerer must not hear yet.
        window = voice[len(piece):]
        if len(window) == 0:
            return
        pair = (window[0], answer_or_none(answerer, list(piece), list(window)))
        yield pair
        if pair[1] is None:
            return
        piece.append(pair)
