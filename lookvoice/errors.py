"""The errors of lookvoice, each with what it speaks of in a field."""


class VoiceError(ValueError):
    """The base class of all errors that the program raises."""


class BadName(VoiceError):
    """A string is not a note."""

    def __init__(self, name):
        super().__init__(f"not a note: {name!r}")
        self.name = name


class Twice(VoiceError):
    """A given note occurs a second time."""

    def __init__(self, name):
        super().__init__(f"given twice: {name!r}")
        self.name = name


class TooMany(VoiceError):
    """There are too many given notes, or too many answers to one of them."""


class UnknownNote(VoiceError):
    """A note is not a given note of the book."""

    def __init__(self, note):
        super().__init__(f"not a given note: {note!r}")
        self.note = note


class UnknownPair(VoiceError):
    """No rule allows the pair."""

    def __init__(self, pair):
        super().__init__(f"not a pair of the book: {pair!r}")
        self.pair = pair


class BadRule(VoiceError):
    """A tuple is not a rule, or the rule is not in force."""

    def __init__(self, rule):
        super().__init__(f"not a rule, or not in force: {rule!r}")
        self.rule = rule


class BadLine(VoiceError):
    """A line of a written book is invalid."""

    def __init__(self, number):
        super().__init__(f"invalid line {number}")
        self.number = number


class BadPlace(VoiceError):
    """A place is out of range."""

    def __init__(self, place):
        super().__init__(f"no such place: {place}")
        self.place = place


class SizeMismatch(VoiceError):
    """Two relations have different sizes."""


class BadAhead(VoiceError):
    """A look-ahead is out of range."""

    def __init__(self, ahead):
        super().__init__(f"look-ahead out of range: {ahead}")
        self.ahead = ahead


class BadWindow(VoiceError):
    """A window or a block has the wrong number of notes."""


class NoAnswer(VoiceError):
    """An answerer has no answer."""


class NoMove(VoiceError):
    """A giver has no move."""


class Silent(VoiceError):
    """The book does not answer the voice."""

    def __init__(self, voice):
        super().__init__(f"not answered: {voice!r}")
        # The slice copies a list, so that a later change of it does not change the error.
        self.voice = voice[:]
