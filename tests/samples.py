"""Books and rules that several tests use."""

from itertools import permutations

from lookvoice.books import Book
from lookvoice.errors import VoiceError

GIVEN = ("l", "r")

# In the order of rules.
RULES = [
    ("pair", "l", "l"), ("pair", "l", "r"), ("pair", "r", "a"),
    ("open", "l", "r"), ("open", "r", "a"),
    ("close", "l", "l"), ("close", "r", "a"),
    ("step", "l", "l", "l", "l"), ("step", "l", "l", "r", "a"),
    ("step", "l", "r", "l", "l"), ("step", "l", "r", "l", "r"),
    ("step", "r", "a", "l", "r"),
]

PAIRS = [("l", "l"), ("l", "r"), ("r", "a")]


def sample_book():
    return Book(GIVEN, RULES)


def everything_of(book):
    """All that a book of the sample rules says."""
    notes = list(book.given)
    return (
        book.given, book.pairs, book.rules,
        [book.answers(note) for note in notes],
        [book.after(last, note) for last in [None] + book.pairs for note in notes],
        [rule in book for rule in RULES],
    )


def error_of(action):
    """The error of the program that the action raises, or None."""
    try:
        action()
    except VoiceError as error:
        return error
    return None


def orders(rules):
    """All orders of the rules in which each pair rule stands before the rules that name its pair."""
    return [order for order in permutations(rules) if error_of(lambda: Book(GIVEN, order)) is None]
