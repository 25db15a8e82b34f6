"""Books as text, and text as books."""

from lookvoice.books import Book
from lookvoice.errors import BadLine, VoiceError


def has_form(words):
    """Whether a line of these words, behind the first line, has the number of words that its first word asks for."""
    if words[0] == "pair":
        return len(words) >= 3
    if words[0] == "step":
        return len(words) >= 5 and len(words) % 2 == 1
    return words[0] in ("open", "close") and len(words) == 3


def line_rules(words):
    """The rules that a well-formed line gives."""
    if words[0] == "pair":
        return [("pair", words[1], answer) for answer in words[2:]]
    if words[0] == "step":
        return [("step", words[1], words[2], words[at], words[at + 1]) for at in range(3, len(words), 2)]
    return [tuple(words)]


def read_given(words):
    """A book without rules, with the given notes of the first line."""
    if words[0] != "given":
        raise BadLine(1)
    try:
        return Book(words[1:])
    except VoiceError:
        raise BadLine(1) from None


def read_line(book, number, words):
    """Adds the rules of a line to the book that is being read."""
    if not has_form(words):
        raise BadLine(number)
    try:
        for rule in line_rules(words):
            book.read(rule)
    except VoiceError:
        raise BadLine(number) from None


def parse_book(text):
    """The book that the text gives. Raises BadLine for the first invalid line."""
    # Two spaces together, or a space at an end, make an empty word, which is not a note.
    lines = [line.split(" ") for line in text.split("\n")]
    book = read_given(lines[0])
    for number, words in enumerate(lines[1:], start=2):
        read_line(book, number, words)
    return book


def pair_lines(book):
    """One line for each given note that has answers."""
    lines = [["pair", note, *book.answers(note)] for note in book.given]
    return [words for words in lines if len(words) > 2]


def step_lines(book):
    """One line for each pair that has followers."""
    lines = [["step", *pair, *follower_words(book, pair)] for pair in book.pairs]
    return [words for words in lines if len(words) > 3]


def follower_words(book, pair):
    """The words of all pairs that may follow the pair."""
    return [word for note in book.given for follower in book.after(pair, note) for word in follower]


def write_book(book):
    """The text of the book, with the rules that are in force."""
    single = [list(rule) for rule in book.rules if rule[0] in ("open", "close")]
    lines = [["given", *book.given], *pair_lines(book), *single, *step_lines(book)]
    return "\n".join([" ".join(words) for words in lines])
