"""Point 19: verdicts."""

import random
import unittest
from itertools import product

from games import (
    chance_games, countdown_book, distant_book, last_note_book, named_books, next_note_book, plays, repetition_book,
    second_next_book, segment_book,
)
from lookvoice.books import Book
from lookvoice.comparing import trimmed
from lookvoice.errors import BadAhead, BadRule
from lookvoice.holding import Held, without
from lookvoice.notation import parse_book
from lookvoice.outlooks import BlockAnswerer, Rings, outlook
from lookvoice.playing import Singer
from lookvoice.verdicts import Verdict, judge, judge_without
from lookvoice.voices import silent_voice
from lookvoice.windows import TableAnswerer, TableGiver, settle
from samples import RULES, error_of, everything_of, full_book, left, sample_book

HUGE = 10 ** 29 + 1


def giver_facts(giver):
    """What a table giver shows of itself."""
    return (giver.ahead, giver.opening, giver.notes)


def answerer_facts(book, answerer):
    """What a block answerer shows of itself."""
    blocks = [[note] * answerer.length for note in book.given]
    return answerer.length, answerer.ahead, [answerer.safe(block) for block in blocks]


class Judged(unittest.TestCase):
    def expect_none(self, verdict, *names):
        self.assertIs(verdict.__class__, Verdict)
        for name in names:
            self.assertIsNone(getattr(verdict, name), name)

    def expect_silent(self, verdict, voice):
        self.assertEqual((verdict.kind, verdict.voice), ("silent", tuple(voice)))
        self.assertIs(verdict.voice.__class__, tuple)
        self.assertIs(verdict.giver.__class__, Singer)
        self.assertEqual(verdict.giver.voice, tuple(voice))
        self.expect_none(verdict, "ahead", "answerer", "rings")

    def expect_never(self, verdict, book):
        self.assertEqual(verdict.kind, "never")
        self.assertIs(verdict.rings.__class__, Rings)
        found = outlook(book).rings
        self.assertEqual((verdict.rings.blocks, verdict.rings.moves), (found.blocks, found.moves))
        self.expect_none(verdict, "ahead", "voice", "answerer", "giver")

    def expect_enough(self, verdict, book, ahead):
        self.assertEqual((verdict.kind, verdict.ahead), ("enough", ahead))
        self.assertIs(verdict.answerer.__class__, TableAnswerer)
        self.assertEqual(verdict.answerer.ahead, ahead)
        if ahead < 3:
            self.assertEqual(verdict.answerer.table(), settle(book, ahead=ahead).answerer.table())
        if ahead == 0:
            self.expect_none(verdict, "giver")
        else:
            self.assertIs(verdict.giver.__class__, TableGiver)
            self.assertEqual(giver_facts(verdict.giver), giver_facts(settle(book, ahead=ahead - 1).giver))
        self.expect_none(verdict, "voice", "rings")

    def expect_beyond(self, verdict, book, most):
        self.assertEqual(verdict.kind, "beyond")
        self.assertIs(verdict.answerer.__class__, BlockAnswerer)
        self.assertGreater(verdict.answerer.ahead, most)
        self.assertEqual(answerer_facts(book, verdict.answerer), answerer_facts(book, outlook(book).answerer))
        self.assertIs(verdict.giver.__class__, TableGiver)
        self.assertEqual(giver_facts(verdict.giver), giver_facts(settle(book, ahead=most).giver))
        self.expect_none(verdict, "ahead", "voice", "rings")

    def expect_verdict(self, verdict, book, most):
        """Looks at a verdict by what the other functions say of the book."""
        silent = silent_voice(book)
        if silent is not None:
            self.expect_silent(verdict, silent)
            return
        enough = [ahead for ahead in range(most + 1) if settle(book, ahead=ahead).enough]
        if enough:
            self.expect_enough(verdict, book, enough[0])
        elif outlook(book).enough:
            self.expect_beyond(verdict, book, most)
        else:
            self.expect_never(verdict, book)


class Judge(Judged):
    def test_silent(self):
        self.expect_silent(judge(sample_book()), ["l"])
        self.expect_silent(judge(book=Book(["b", "a"]), most=0), ["b"])
        rules = [rule for rule in full_book("ab", "x").rules if rule != ("step", "b", "x", "a", "x")]
        for most in range(7):
            self.expect_silent(judge(Book(["a", "b"], rules), most=most), ["b", "a"])

    def test_never(self):
        for book in (last_note_book("ab"), repetition_book("abc"), segment_book(0), segment_book(1)):
            for most in (0, 1, 2, 3):
                self.expect_never(judge(book, most=most), book)
            self.expect_never(judge(book), book)

    def test_enough(self):
        cases = [(Book([]), 0), (full_book("ab", "xy"), 0), (full_book(), 0), (last_note_book("a"), 0),
                 (next_note_book("ab"), 1), (next_note_book("abc"), 1), (second_next_book(), 2),
                 (repetition_book("ab"), 0), (countdown_book(2), 2), (countdown_book(3), 3)]
        for book, least in cases:
            for most in range(least, 7 if len(book.given) < 3 else 4):
                self.expect_enough(judge(book, most=most), book, least)
            self.expect_enough(judge(book), book, least)

    def test_beyond(self):
        cases = [(next_note_book("ab"), 1), (next_note_book("abc"), 1), (second_next_book(), 2), (countdown_book(2), 2),
                 (countdown_book(3), 3), (distant_book(), 9)]
        for book, least in cases:
            for most in range(min(least, 7)):
                self.expect_beyond(judge(book, most=most), book, most)
        self.expect_beyond(judge(distant_book()), distant_book(), 3)

    def test_the_example(self):
        head = ("given l r\npair l l r\npair r l r\nopen l l\nopen l r\nopen r l\nopen r r\n"
                "close l l\nclose l r\nclose r l\nclose r r")
        steps = "\nstep l l l l l r\nstep l r r l r r\nstep r l l l l r\nstep r r r l r r"
        verdict = judge(parse_book(head + steps))
        self.assertEqual((verdict.kind, verdict.ahead, verdict.giver.notes), ("enough", 1, 2))

    def test_books_by_chance(self):
        source = random.Random(151)
        kinds = {}
        for book in chance_games(source, 250):
            most = source.randrange(4)
            verdict = judge(book, most=most)
            self.expect_verdict(verdict, book, most)
            kinds[verdict.kind] = kinds.get(verdict.kind, 0) + 1
        self.assertGreater(min(kinds.get(kind, 0) for kind in ("silent", "never", "enough", "beyond")), 5)

    def test_the_most_that_is_asked_for(self):
        for most in range(7):
            for book in (Book([]), next_note_book("ab"), last_note_book("ab"), distant_book(), sample_book()):
                self.expect_verdict(judge(book, most=most), book, most)

    def test_most_is_three_if_not_given(self):
        self.assertEqual(judge(countdown_book(3)).ahead, 3)
        verdict = judge(distant_book())
        self.assertEqual((verdict.kind, verdict.giver.ahead), ("beyond", 3))

    def test_most_is_passed_by_name(self):
        with self.assertRaises(TypeError):
            judge(Book([]), 3)

    def test_most_out_of_range(self):
        # The sample does not answer every voice, and the number is looked at first all the same.
        for most in (-1, 7, 8, -6, 60, HUGE, -HUGE):
            for book in (sample_book(), Book([]), Book(["a"]), last_note_book("ab"), full_book()):
                error = error_of(lambda: judge(book, most=most))
                self.assertIs(error.__class__, BadAhead)
                self.assertEqual(error.ahead, most)

    def test_other_names_of_notes(self):
        names = {"a": "Note1", "b": "0", "c": "zZ9"}
        for book in named_books():
            if not set(book.given) <= set(names):
                continue
            rules = [tuple(names[word] if at % 2 == 1 else word for at, word in enumerate(rule)) for rule in book.rules]
            # Answers get other names, too.
            rules = [tuple(word + "s" if at > 0 and at % 2 == 0 else word for at, word in enumerate(rule))
                     for rule in rules]
            other = Book([names[note] for note in book.given], rules)
            self.expect_same_kind(judge(book), judge(other))
            self.expect_verdict(judge(other), other, 3)

    def expect_same_kind(self, first, second):
        self.assertEqual((first.kind, first.ahead), (second.kind, second.ahead))
        if first.kind in ("enough", "beyond") and first.giver is not None:
            self.assertEqual((first.giver.ahead, first.giver.notes), (second.giver.ahead, second.giver.notes))

    def test_another_order_of_answers(self):
        source = random.Random(152)
        for book in named_books() + chance_games(source, 60):
            pairs = [rule for rule in book.rules if rule[0] == "pair"]
            others = [rule for rule in book.rules if rule[0] != "pair"]
            source.shuffle(pairs)
            source.shuffle(others)
            self.expect_same_kind(judge(book), judge(Book(book.given, pairs + others)))

    def test_the_trimmed_book(self):
        source = random.Random(153)
        for book in named_books() + chance_games(source, 60):
            self.expect_same_kind(judge(book), judge(trimmed(book)))

    def test_large_books(self):
        for rule in (("pair", "a", "w"), ("open", "b", "x"), ("close", "d", "z"), ("step", "a", "w", "b", "x")):
            self.expect_enough(judge_without(full_book(), [rule], most=2), without(full_book(), [rule]), 0)
        self.expect_enough(judge(next_note_book("abcd"), most=2), next_note_book("abcd"), 1)
        self.expect_never(judge(last_note_book("abcd"), most=2), last_note_book("abcd"))

    def test_while_rules_are_held(self):
        source = random.Random(154)
        for book in (next_note_book("ab"), last_note_book("ab"), second_next_book(), sample_book()):
            before = everything_of(book)
            for rule in source.sample(book.rules, 8):
                with Held(book, rule):
                    verdict = judge(book)
                self.assertEqual(everything_of(book), before)
                self.expect_verdict(verdict, without(book, [rule]), 3)

    def test_arguments_stay_as_they_are(self):
        for book in (next_note_book("ab"), last_note_book("ab"), sample_book(), distant_book()):
            before = everything_of(book)
            for most in (-1, 0, 3, 7):
                error_of(lambda: judge(book, most=most))
                self.assertEqual(everything_of(book), before)


class JudgeWithout(Judged):
    def test_no_rules(self):
        for book in (Book([]), next_note_book("ab"), last_note_book("ab"), sample_book(), distant_book()):
            for rules in ([], ()):
                self.expect_verdict(judge_without(book, rules), book, 3)
                self.expect_verdict(judge_without(book=book, rules=rules, most=1), book, 1)

    def test_one_rule_of_each_kind(self):
        source = random.Random(161)
        for book in (next_note_book("ab"), second_next_book(), last_note_book("ab"), sample_book(), countdown_book(3)):
            for word in ("pair", "open", "close", "step"):
                rule = source.choice([rule for rule in book.rules if rule[0] == word])
                plain = Book(book.given, left(book.rules, [rule]))
                before = everything_of(book)
                for rules in ([rule], (rule,)):
                    verdict = judge_without(book, rules, most=2)
                    self.assertEqual(everything_of(book), before)
                    self.expect_verdict(verdict, plain, 2)

    def test_several_rules(self):
        source = random.Random(162)
        kinds = {}
        for _ in range(80):
            book = source.choice([full_book("ab", "xyz"), second_next_book(), full_book("ab", "xy")])
            rules = []
            for _ in range(source.randrange(2, 12)):
                rest = left(book.rules, rules)
                rules.append(source.choice([rule for rule in rest if rule[0] != "pair"] or rest))
            before = everything_of(book)
            verdict = judge_without(book, rules, most=2)
            self.assertEqual(everything_of(book), before)
            self.expect_verdict(verdict, Book(book.given, left(book.rules, rules)), 2)
            kinds[verdict.kind] = True
        self.assertGreater(len(kinds), 1)

    def test_forty_rules(self):
        book = full_book()
        rules = [rule for rule in book.rules if rule[0] == "step"][:40]
        plain = Book(book.given, left(book.rules, rules))
        self.expect_verdict(judge_without(book, rules, most=1), plain, 1)
        self.assertEqual(everything_of(book), everything_of(full_book()))

    def test_its_objects_keep_the_rules_that_were_left(self):
        book = next_note_book("ab")
        more = Book(book.given, book.rules + [("step", "a", "a", "b", "b"), ("step", "a", "a", "b", "a")])
        added = [("step", "a", "a", "b", "a"), ("step", "a", "a", "b", "b")]
        verdict = judge_without(more, added)
        self.expect_enough(verdict, book, 1)
        self.assertEqual(plays(book, verdict.giver, 0), plays(book, settle(book, ahead=0).giver, 0))
        for piece, window in product([[], [("a", "a")], [("b", "a")]], [["a"], ["a", "b"], ["b", "a"]]):
            first = error_of(lambda: verdict.answerer(piece, window))
            second = error_of(lambda: settle(book, ahead=1).answerer(piece, window))
            self.assertIs(first.__class__, second.__class__)

    def test_a_rule_that_is_not_in_force(self):
        book = sample_book()
        before = everything_of(book)
        cases = [
            ([("open", "l", "l")], ("open", "l", "l")),
            ([RULES[3], RULES[3]], RULES[3]),
            ([RULES[3], ("pair", "x", "y"), ("open", "l", "l")], ("pair", "x", "y")),
            ([("pair", "l", "r"), ("open", "l", "r")], ("open", "l", "r")),
            ([()], ()),
            ([RULES[5], RULES[6], ("step", "l")], ("step", "l")),
        ]
        for rules, rule in cases:
            for most in (0, 3, -1, 7, HUGE):
                error = error_of(lambda: judge_without(book, rules, most=most))
                self.assertIs(error.__class__, BadRule)
                self.assertEqual(error.rule, rule)
                self.assertEqual(everything_of(book), before)

    def test_most_out_of_range(self):
        book = sample_book()
        before = everything_of(book)
        for rules in ([], [RULES[4]], [RULES[4], RULES[5]]):
            for most in (-1, 7, HUGE, -HUGE):
                error = error_of(lambda: judge_without(book, rules, most=most))
                self.assertIs(error.__class__, BadAhead)
                self.assertEqual(error.ahead, most)
                self.assertEqual(everything_of(book), before)

    def test_while_other_rules_are_held(self):
        book = second_next_book()
        first, second = ("step", "a", "aa", "a", "aa"), ("open", "b", "ab")
        plain = Book(book.given, left(book.rules, [first, second]))
        with Held(book, first):
            before = everything_of(book)
            verdict = judge_without(book, [second])
            self.assertEqual(everything_of(book), before)
            error = error_of(lambda: judge_without(book, [second, first]))
            self.assertEqual((error.__class__, error.rule), (BadRule, first))
            self.assertEqual(everything_of(book), before)
        self.expect_verdict(verdict, plain, 3)

    def test_arguments_stay_as_they_are(self):
        book = next_note_book("ab")
        rules = [("open", "a", "a"), ("close", "a", "a")]
        judge_without(book, rules)
        self.assertEqual(rules, [("open", "a", "a"), ("close", "a", "a")])


if __name__ == "__main__":
    unittest.main()
