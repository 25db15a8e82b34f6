"""The verdict on a book."""

from lookvoice.asking import require_ahead
from lookvoice.holding import without
from lookvoice.masks import Masks
from lookvoice.outlooks import outlook_of
from lookvoice.places import Places
from lookvoice.playing import Singer
from lookvoice.voices import silent_voice
from lookvoice.windows import MOST_AHEAD, hearing_of


class Verdict:
    """The verdict on a book. The fields that do not apply to its kind are None."""

    def __init__(self, kind, *, ahead=None, voice=None, answerer=None, giver=None, rings=None):
        self.kind = kind
        self.ahead = ahead
        self.voice = voice
        self.answerer = answerer
        self.giver = giver
        self.rings = rings


def verdict_beyond(masks, giver):
    """The verdict if the table giver wins against the greatest look-ahead that is asked for."""
    found = outlook_of(masks)
    if found.enough:
        return Verdict("beyond", answerer=found.answerer, giver=giver)
    return Verdict("never", rings=found.rings)


def judge(book, *, most=3):
    """The verdict on the book. Table answerers are looked for with look-aheads of at most `most` notes."""
    require_ahead(most, MOST_AHEAD)
    silent = silent_voice(book)
    if silent is not None:
        return Verdict("silent", voice=tuple(silent), giver=Singer(silent))
    masks = Masks(Places(book))
    giver = None
    for ahead in range(most + 1):
        hearing = hearing_of(masks, ahead)
        if hearing.enough:
            return Verdict("enough", ahead=ahead, answerer=hearing.answerer, giver=giver)
        giver = hearing.giver
    return verdict_beyond(masks, giver)


def judge_without(book, rules, *, most=3):
    """The verdict on the book while the rules are held, one after another."""
    return judge(without(book, rules), most=most)
