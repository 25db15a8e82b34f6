"""Rule books: the given notes, their answers and the rules in force."""

from lookvoice.errors import BadName, BadRule, TooMany, Twice, UnknownNote, UnknownPair

LONGEST_NAME = 8
MOST_GIVEN = 4
MOST_ANSWERS = 4
RULE_LENGTHS = {"pair": 3, "open": 3, "close": 3, "step": 5}


def is_note(name):
    """Whether the string is a note."""
    return 1 <= len(name) <= LONGEST_NAME and name.isascii() and name.isalnum()


def is_well_formed(rule):
    """Whether the tuple has a rule's first word and the length that belongs to it."""
    return len(rule) > 0 and rule[0] in RULE_LENGTHS and len(rule) == RULE_LENGTHS[rule[0]]


def named_pairs(rule):
    """The pairs that a well-formed rule names, in their order."""
    return [(rule[at], rule[at + 1]) for at in range(1, len(rule), 2)]


def checked_given(given):
    """The given notes as a tuple, or the first error among them."""
    if len(given) > MOST_GIVEN:
        raise TooMany("too many given notes")
    seen = []
    for name in given:
        if not is_note(name):
            raise BadName(name)
        if name in seen:
            raise Twice(name)
        seen.append(name)
    return tuple(seen)


class RuleMark:
    """Says of one rule whether it is held."""

    def __init__(self):
        self.held = False


class Book:
    """A rule book. All that it returns speaks of the rules in force."""

    def __init__(self, given, rules=()):
        self.given = checked_given(given)
        self._answers = {note: [] for note in self.given}
        self._marks = {}
        for rule in rules:
            self.read(rule)

    @property
    def pairs(self):
        """The list of the pairs in force, in the order of pairs."""
        known = [(note, answer) for note in self.given for answer in self._answers[note]]
        return [pair for pair in known if ("pair", *pair) in self]

    @property
    def rules(self):
        """The list of the rules in force, in the order of rules."""
        pairs = self.pairs
        single = [(word, *pair) for word in ("pair", "open", "close") for pair in pairs]
        steps = [("step", *pair, *following) for pair in pairs for following in pairs]
        return [rule for rule in single + steps if rule in self]

    def answers(self, note):
        """The list of the answers to a given note, in the order of pairs."""
        self._require_note(note)
        return [answer for answer in self._answers[note] if ("pair", note, answer) in self]

    def after(self, last, note):
        """The list of the pairs over the note that may follow the pair `last`, or the start if it is None."""
        self._require_note(note)
        if last is None:
            before = ("open",)
        else:
            self._require_pair(last)
            before = ("step", *last)
        pairs = [(note, answer) for answer in self.answers(note)]
        return [pair for pair in pairs if (*before, *pair) in self]

    def read(self, rule):
        """Reads one more rule while the book is being made, or raises the first error in it."""
        if not is_well_formed(rule):
            raise BadRule(rule)
        if rule[0] == "pair":
            self._read_pair(rule[1], rule[2])
        else:
            for pair in named_pairs(rule):
                self._require_note(pair[0])
                self._require_pair(pair)
        self._marks.setdefault(rule, RuleMark())

    def hold(self, rule):
        """Holds a rule that is in force, and returns the mark by which it is released again."""
        if rule not in self:
            raise BadRule(rule)
        mark = self._marks[rule]
        mark.held = True
        return mark

    def __contains__(self, rule):
        if rule not in self._marks or self._marks[rule].held:
            return False
        pair_rules = [("pair", *pair) for pair in named_pairs(rule)]
        return not any([self._marks[pair_rule].held for pair_rule in pair_rules])

    def __le__(self, other):
        if not all([note in other.given for note in self.given]):
            return False
        return all([rule in other for rule in self.rules])

    def _read_pair(self, note, answer):
        self._require_note(note)
        if not is_note(answer):
            raise BadName(answer)
        answers = self._answers[note]
        if answer in answers:
            return
        if len(answers) >= MOST_ANSWERS:
            raise TooMany("too many answers to a note")
        answers.append(answer)

    def _require_note(self, note):
        if note not in self._answers:
            raise UnknownNote(note)

    def _require_pair(self, pair):
        if ("pair", *pair) not in self:
            raise UnknownPair(pair)
