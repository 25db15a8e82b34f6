"""Comparing books by the voices that they answer, and trimming them."""

from lookvoice.books import Book, named_pairs
from lookvoice.holding import Held
from lookvoice.places import Places, first_voice
from lookvoice.relations import identity


def parting_voice(ours, theirs, notes):
    """The first voice of these notes that is answered over just one of the two sets of places, or None."""
    return first_voice(
        notes,
        ((0,), (0,)),
        lambda ends, note: (ours.follow(ends[0], note), theirs.follow(ends[1], note)),
        lambda ends: ours.is_closed(ends[0]) != theirs.is_closed(ends[1]),
    )


def parting(first, second):
    """The first voice that exactly one of the books answers, with whether it is the first book; or None."""
    ours = Places(first)
    more = [note for note in second.given if note not in first.given]
    voice = parting_voice(ours, Places(second), [*first.given, *more])
    if voice is None:
        return None
    return voice, ours.can_answer(voice)


def run_relation(places):
    """The relation of all places p and q for which some run from p, along whatever voice, ends at q."""
    found = identity(places.size)
    for relation in places.steps.values():
        found = found | relation
    longer = found * found
    while longer.rows != found.rows:
        found = longer
        longer = found * found
    return found


def used_pairs(book):
    """The pairs, as the keys of a dict, that some unbroken piece contains."""
    places = Places(book)
    runs = run_relation(places)
    return {places.lasts[place]: True for place in runs.rows[0] if place > 0 and places.is_closed(runs.rows[place])}


def used_rules(book):
    """The rules in force that some unbroken piece uses."""
    used = used_pairs(book)
    # Where a rule in force names used pairs only, a piece leads up to it, and on from it to an end.
    return [rule for rule in book.rules if all([pair in used for pair in named_pairs(rule)])]


def trimmed(book):
    """A new book with the same given notes and those rules in force that some unbroken piece uses."""
    return Book(book.given, used_rules(book))


def is_spare(book, whole, rule):
    """Whether the book answers the same voices while the rule is held; `whole` has its places without that."""
    with Held(book, rule):
        return parting_voice(whole, Places(book), book.given) is None


def spare_rules(book):
    """The rules in force that can be held, each one alone, without a change of the voices that the book answers."""
    whole = Places(book)
    rules = book.rules
    return [rule for rule in rules if is_spare(book, whole, rule)]
