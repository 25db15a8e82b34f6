"""Books and rules that several tests use."""

from itertools import permutations, product

from lookvoice.books import Book
from lookvoice.errors import VoiceError

GIVEN = ("l", "r")

# In the order of rules.
RULES = [
    ("pair", "l", "l"), ("pair", "l", "r"), ("pair", "r", "a"),
    ("open", "l", "r"), ("open", "r", "a"),
    ("close", "l", "l"), ("close", "r", "a"),
    ("step", "l", "l", "l", "l"), ("step", "l", "l", "r", "a"),
    ("step", "l", "r", "l", "l"), ("step", "l", "r", "l", "r"),
    ("step", "r", "a", "l", "r"),
]

PAIRS = [("l", "l"), ("l", "r"), ("r", "a")]


def sample_book():
    return Book(GIVEN, RULES)


def everything_of(book):
    """All that a book of the sample rules says."""
    notes = list(book.given)
    return (
        book.given, book.pairs, book.rules,
        [book.answers(note) for note in notes],
        [book.after(last, note) for last in [None] + book.pairs for note in notes],
        [rule in book for rule in RULES],
    )


def error_of(action):
    """The error of the program that the action raises, or None."""
    try:
        action()
    except VoiceError as error:
        return error
    return None


def orders(rules):
    """All orders of the rules in which each pair rule stands before the rules that name its pair."""
    return [order for order in permutations(rules) if error_of(lambda: Book(GIVEN, order)) is None]


def named_pairs(rule):
    """The pairs that a rule names."""
    return [rule[1:3]] if len(rule) == 3 else [rule[1:3], rule[3:5]]


def left(rules, held):
    """The rules that are in force while others are held, worked out plainly."""
    gone = [rule[1:] for rule in held if rule[0] == "pair"]
    return [rule for rule in rules if rule not in held and not any(pair in gone for pair in named_pairs(rule))]


def full_book(given="abcd", answers="wxyz"):
    """The book of all rules over these notes and answers."""
    pairs = [(note, one) for note in given for one in answers]
    single = [(word, *pair) for word in ("pair", "open", "close") for pair in pairs]
    return Book(list(given), single + [("step", *first, *second) for first in pairs for second in pairs])


def chance_book(source, given="ab", answers="xy", share=50):
    """A book with about this share, of 100, of the rules that its pairs allow. Not all notes have all answers."""
    rules = full_book(given, answers).rules
    chosen = [rule for rule in rules if rule[0] == "pair" and source.randrange(100) < 80]
    pairs = [rule[1:] for rule in chosen]
    for rule in rules:
        if rule[0] != "pair" and all(pair in pairs for pair in named_pairs(rule)) and source.randrange(100) < share:
            chosen.append(rule)
    return Book(list(given), chosen)


def voices_of(notes, most):
    """All voices of at most so many notes, in the order of voices."""
    return [list(voice) for length in range(most + 1) for voice in product(notes, repeat=length)]


def runs_from(book, last, voice):
    """All runs from the place of a pair, or from the start, along a voice, walked one by one."""
    if not voice:
        return [[]]
    return [[pair] + run for pair in book.after(last, voice[0]) for run in runs_from(book, pair, voice[1:])]


def unbroken_pieces(book, voice):
    """All unbroken pieces with this voice, in the order of pieces, walked one by one."""
    return [run for run in runs_from(book, None, voice) if not run or ("close", *run[-1]) in book]


def is_answered(book, voice):
    """Whether the book answers a voice of any notes, worked out with the sets of pairs that runs may end with."""
    lasts = {None}
    for note in voice:
        if note not in book.given:
            return False
        lasts = {pair for last in lasts for pair in book.after(last, note)}
    return any(last is None or ("close", *last) in book for last in lasts)
