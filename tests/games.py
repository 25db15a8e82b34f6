"""Books that need a look-ahead, and the plain searches of points 8 to 14 for small books."""

from itertools import product

from lookvoice.books import Book
from lookvoice.outlooks import outlook
from lookvoice.voices import silent_voice
from samples import chance_book, full_book, is_answered, voices_of


def book_of(given, pairs, opens, closes, steps):
    """The book of these pairs; the steps are couples of pairs."""
    rules = [("pair", *pair) for pair in pairs]
    rules += [("open", *pair) for pair in opens] + [("close", *pair) for pair in closes]
    return Book(list(given), rules + [("step", *first, *second) for first, second in steps])


def next_note_book(given):
    """Each answer names the next given note. One note must be heard ahead."""
    pairs = [(note, named) for note in given for named in given]
    return book_of(given, pairs, pairs, pairs, [(one, two) for one in pairs for two in pairs if one[1] == two[0]])


def second_next_book(given="ab"):
    """Each answer names the next two given notes. Two notes must be heard ahead."""
    pairs = [(note, first + second) for note in given for first in given for second in given]
    steps = [(one, two) for one in pairs for two in pairs if one[1] == two[0] + two[1][0]]
    return book_of(given, pairs, pairs, pairs, steps)


def repetition_book(given):
    """Each answer names the note that ends the repetition of its given note. With three notes nothing is enough."""
    pairs = [(note, named) for note in given for named in given if named != note]
    steps = [(one, two) for one in pairs for two in pairs if one == two or one[1] == two[0] != one[0]]
    return book_of(given, pairs, pairs, pairs, steps)


def last_note_book(given):
    """Each answer names the last note of the voice. With two notes nothing is enough."""
    pairs = [(note, named) for note in given for named in given]
    closes = [pair for pair in pairs if pair[0] == pair[1]]
    return book_of(given, pairs, pairs, closes, [(one, two) for one in pairs for two in pairs if one[1] == two[1]])


def changing_book():
    """The last note's book, but an answer that names b over a may be followed by those that name a."""
    book = last_note_book("ab")
    return Book(book.given, book.rules + [("step", "a", "b", "a", "a"), ("step", "a", "b", "b", "a")])


def countdown_book(most):
    """Each answer names the number of notes to come, or `most` for all from there on, which must be heard ahead."""
    pairs = [("a", str(many)) for many in range(most + 1)]
    steps = [(("a", str(many)), ("a", str(many - 1))) for many in range(1, most + 1)]
    return book_of("a", pairs, pairs, pairs[:1], steps + [(pairs[-1], pairs[-1])])


def distant_book():
    """Answers go round in threes and fours, and only y can close. Nine notes must be heard ahead."""
    pairs = [("a", one) for one in "wxyz"]
    steps = [(("a", one), ("a", two)) for one, two in ("wz", "xw", "yx", "zx", "zy")]
    return book_of("a", pairs, pairs, [("a", "y")], steps)


def segment_book(mistakes):
    """In each stretch between two c, each answer names the last note of the stretch; so many may be wrong."""
    many = range(mistakes + 1)
    pairs = [(note, named + str(wrong)) for note in "ab" for named in "ab" for wrong in many]
    pairs += [("c", str(wrong)) for wrong in many]

    def wrong_after(pair):
        return int(pair[1][-1]) + (pair[0] != "c" and pair[1][0] != pair[0])

    def may_follow(one, two):
        if two[0] == "c":
            return wrong_after(one) == int(two[1])
        return two[1] == one[1] if one[0] != "c" else two[1][1] == one[1]

    opens = [pair for pair in pairs if pair[1][-1] == "0"]
    closes = [pair for pair in pairs if wrong_after(pair) <= mistakes]
    steps = [(one, two) for one in pairs for two in pairs if may_follow(one, two)]
    return book_of("abc", pairs, opens, closes, steps)


def named_books():
    """Books of all kinds, whose verdicts the tests know."""
    return [
        Book([]), full_book("a", "x"), full_book("ab", "xy"), next_note_book("ab"), next_note_book("abc"),
        second_next_book(), repetition_book("ab"), repetition_book("abc"), last_note_book("a"), last_note_book("ab"),
        last_note_book("abc"), changing_book(), countdown_book(2), countdown_book(3), distant_book(), segment_book(0),
        segment_book(1),
    ]


def perturbed(source, book):
    """The book with a few other rules, its pairs excepted."""
    rules = book.rules
    for _ in range(source.choice([1, 1, 2, 3])):
        others = [rule for rule in rules if rule[0] != "pair"]
        pairs = book.pairs
        if source.randrange(100) < 65:
            rules.remove(source.choice(others))
        else:
            first, second = source.choice(pairs), source.choice(pairs)
            rules.append(source.choice([("open", *first), ("close", *first), ("step", *first, *second)]))
    return Book(book.given, rules)


def chance_games(source, many, most_given=3):
    """So many books by chance, some of them without a look-ahead that is enough."""
    named = [book for book in named_books() if 0 < len(book.given) <= most_given]
    found = []
    while len(found) < many:
        if source.randrange(3) > 0:
            found.append(perturbed(source, source.choice(named)))
        else:
            given = "abc"[:source.randrange(1, most_given + 1)]
            found.append(chance_book(source, given, source.choice(["xy", "xyz"]), source.choice([30, 50, 65, 80])))
    return found


def answered_games(source, many, most_given=3):
    """Books by chance that answer every voice."""
    found = []
    while len(found) < many:
        found += [book for book in chance_games(source, 10, most_given) if silent_voice(book) is None]
    return found[:many]


def never_games(source, many):
    """Books by chance that answer every voice, but for which no look-ahead is enough."""
    named = [repetition_book("abc"), last_note_book("ab"), last_note_book("abc"), changing_book(), segment_book(0),
             segment_book(1)]
    found = []
    while len(found) < many:
        book = perturbed(source, source.choice(named))
        if silent_voice(book) is None and not outlook(book).enough:
            found.append(book)
    return found


def ends(book, lasts, voice):
    """The pairs, or None for the start, with which the runs along the voice end that begin with one of `lasts`."""
    for note in voice:
        lasts = {pair for last in lasts for pair in book.after(last, note)}
    return lasts


def is_closed(book, lasts):
    return any(last is None or ("close", *last) in book for last in lasts)


def has_closed_run(book, last, voice):
    return is_closed(book, ends(book, {last}, voice))


def plain_losses(book, ahead):
    """The standings (last pair, heard notes) that are lost, with the number of notes, by point 11 word for word."""
    standings = [(last, voice) for last in [None] + book.pairs for voice in product(book.given, repeat=ahead)]
    lost = {standing: 0 for standing in standings if not has_closed_run(book, *standing)}
    notes = 0
    while True:
        fresh = [standing for standing in standings if standing not in lost and losing_notes(book, standing, lost)]
        if not fresh:
            return lost
        notes += 1
        lost.update({standing: notes for standing in fresh})


def losing_notes(book, standing, lost):
    """The given notes by which every answer leads to a lost standing."""
    last, voice = standing
    found = []
    for note in book.given:
        first, *others = (*voice, note)
        if all((pair, tuple(others)) in lost for pair in book.after(last, first)):
            found.append(note)
    return found


def short_silent_voice(book, ahead):
    """The first voice of fewer than `ahead` notes that the book does not answer, or None."""
    silent = [voice for voice in voices_of(book.given, ahead - 1) if not is_answered(book, voice)]
    return silent[0] if silent else None


def plain_opening(book, ahead, lost):
    """The opening of the table giver with its number of notes, by point 14, or None if the look-ahead is enough."""
    silent = short_silent_voice(book, ahead)
    if silent is not None:
        return tuple(silent), len(silent)
    openings = [voice for voice in product(book.given, repeat=ahead) if (None, voice) in lost]
    if not openings:
        return None
    fewest = min(lost[(None, voice)] for voice in openings)
    return [voice for voice in openings if lost[(None, voice)] == fewest][0], ahead + fewest


def plain_answer(book, ahead, lost, last, window):
    """The answer of the table answerer, or None, by point 13."""
    rest = tuple(window[1:])
    for pair in book.after(last, window[0]):
        if (pair, rest) not in lost if len(window) == ahead + 1 else has_closed_run(book, pair, rest):
            return pair[1]
    return None


def places_of(book):
    return [None] + book.pairs


def plain_rows(book, voice):
    """The behaviour of the voice: for each place the set of places where the runs from it end."""
    numbers = {last: place for place, last in enumerate(places_of(book))}
    return [{numbers[end] for end in ends(book, {last}, voice)} for last in places_of(book)]


def heard_by(giver, piece, voice, ahead):
    """The voice when the next note is answered, and whether it is known then to have ended."""
    voice = list(voice)
    while len(voice) <= len(piece) + ahead:
        note = giver(list(piece), list(voice))
        if note is None:
            return voice, True
        voice.append(note)
    return voice, False


def plays(book, giver, ahead, piece=(), voice=()):
    """All plays of the giver against all answers that may follow, as (piece, whole voice), up to the voice's end."""
    voice, has_ended = heard_by(giver, piece, voice, ahead)
    if has_ended:
        return [(list(piece), voice)]
    last = piece[-1] if piece else None
    found = []
    for pair in book.after(last, voice[len(piece)]):
        found += plays(book, giver, ahead, [*piece, pair], voice)
    return found or [(list(piece), voice)]


def is_lost(book, piece, voice):
    """Whether no closed run leads from the piece along the rest of the voice."""
    return not has_closed_run(book, piece[-1] if piece else None, voice[len(piece):])
