"""Holding rules of a book for the length of a block."""

from lookvoice.books import Book


class Held:
    """Holds one rule of a book inside a `with` block. The name after `as` is the book itself."""

    def __init__(self, book, rule):
        self._book = book
        self._rule = rule
        self._mark = None

    def __enter__(self):
        self._mark = self._book.hold(self._rule)
        return self._book

    def __exit__(self, kind, value, trace):
        mark = self._mark
        mark.held = False


def without(book, rules):
    """A new book with the rules that are in force while the listed ones are held, each inside the block before."""
    if len(rules) == 0:
        return Book(book.given, book.rules)
    with Held(book, rules[0]):
        return without(book, rules[1:])
