"""Point 6: holding rules."""

import random
import unittest

from lookvoice.books import Book
from lookvoice.errors import BadRule, UnknownPair
from lookvoice.holding import Held, without
from samples import GIVEN, PAIRS, RULES, error_of, everything_of, left, named_pairs, sample_book


class Failure(Exception):
    """An error of a test's own."""


class Holding(unittest.TestCase):
    def expect(self, book, rules):
        """The book says what a book of just these rules says."""
        pairs = [rule[1:] for rule in rules if rule[0] == "pair"]
        self.assertEqual(book.given, GIVEN)
        self.assertEqual(book.rules, rules)
        self.assertEqual(book.pairs, pairs)
        self.assertEqual([rule for rule in RULES if rule in book], rules)
        for note in GIVEN:
            self.assertEqual(book.answers(note), [pair[1] for pair in pairs if pair[0] == note])
            over = [pair for pair in pairs if pair[0] == note]
            self.assertEqual(book.after(None, note), [pair for pair in over if ("open", *pair) in rules])
            for last in PAIRS:
                self.expect_after(book, last, note, rules, over)
        plain = Book(GIVEN, rules)
        self.assertTrue(book <= plain and plain <= book)

    def expect_after(self, book, last, note, rules, over):
        if ("pair", *last) in rules:
            self.assertEqual(book.after(last, note), [pair for pair in over if ("step", *last, *pair) in rules])
        else:
            error = error_of(lambda: book.after(last, note))
            self.assertIs(error.__class__, UnknownPair)
            self.assertEqual(error.pair, last)

    def expect_refused(self, book, rule):
        """Entering a block over the rule raises BadRule and changes nothing."""
        before = book.rules
        entered = []
        with self.assertRaises(BadRule) as caught:
            with Held(book, rule):
                entered.append(rule)
        self.assertEqual(caught.exception.rule, rule)
        self.assertEqual(entered, [])
        self.expect(book, before)


class OneBlock(Holding):
    def test_nothing_held(self):
        self.expect(sample_book(), RULES)

    def test_each_rule(self):
        for rule in RULES:
            book = sample_book()
            with Held(book, rule):
                self.expect(book, left(RULES, [rule]))
            self.expect(book, RULES)

    def test_a_pair_rule_by_hand(self):
        book = sample_book()
        with Held(book, ("pair", "l", "l")):
            self.assertEqual(book.pairs, [("l", "r"), ("r", "a")])
            self.assertEqual(book.rules, [
                ("pair", "l", "r"), ("pair", "r", "a"), ("open", "l", "r"), ("open", "r", "a"), ("close", "r", "a"),
                ("step", "l", "r", "l", "r"), ("step", "r", "a", "l", "r"),
            ])
            self.assertEqual(book.answers("l"), ["r"])
            self.assertEqual(book.after(("l", "r"), "l"), [("l", "r")])
            self.assertNotIn(("close", "l", "l"), book)
            self.assertNotIn(("step", "l", "r", "l", "l"), book)

    def test_other_rules_do_not_take_more_away(self):
        for rule in RULES[3:]:
            book = sample_book()
            with Held(book, rule):
                self.assertEqual(len(book.rules), len(RULES) - 1)

    def test_the_name_is_the_book_itself(self):
        book = sample_book()
        with Held(book, RULES[0]) as same_book:
            self.assertIs(same_book, book)

    def test_arguments_by_name(self):
        book = sample_book()
        with Held(book=book, rule=RULES[4]) as same_book:
            self.assertIs(same_book, book)
            self.expect(book, left(RULES, [RULES[4]]))

    def test_an_error_inside_ends_the_block_and_passes(self):
        for rule in RULES:
            book = sample_book()
            with self.assertRaises(Failure):
                with Held(book, rule):
                    raise Failure()
            self.expect(book, RULES)

    def test_an_error_of_the_program_inside(self):
        book = sample_book()
        with self.assertRaises(UnknownPair):
            with Held(book, ("pair", "l", "r")):
                book.after(("l", "r"), "l")
        self.expect(book, RULES)

    def test_leaving_by_return_and_break(self):
        book = sample_book()

        def rules_inside():
            with Held(book, RULES[0]):
                return book.rules

        self.assertEqual(rules_inside(), left(RULES, [RULES[0]]))
        for rule in RULES:
            with Held(book, rule):
                break
        self.expect(book, RULES)

    def test_making_holds_nothing(self):
        book = sample_book()
        made = [Held(book, rule) for rule in RULES]
        self.expect(book, RULES)
        with made[0]:
            self.expect(book, left(RULES, RULES[:1]))
        self.expect(book, RULES)

    def test_making_raises_nothing(self):
        book = sample_book()
        for rule in ((), ("no",), ("pair", "x", "y"), ("open", "l", "l")):
            Held(book, rule)
        self.expect(book, RULES)

    def test_one_object_for_several_blocks(self):
        book = sample_book()
        held = Held(book, RULES[2])
        for _ in range(3):
            with held:
                self.expect(book, left(RULES, [RULES[2]]))
            self.expect(book, RULES)


class Refused(Holding):
    def test_rules_that_the_book_does_not_have(self):
        absent = [(), ("",), ("pair",), ("pair", "l"), ("pair", "l", "a"), ("pair", "x", "l"), ("open", "l", "l"),
                  ("close", "l", "r"), ("step", "r", "a", "r", "a"), ("step", "l", "l"), ("no", "l", "l"), ("l", "l")]
        for rule in absent:
            self.expect_refused(sample_book(), rule)

    def test_the_same_rule_twice(self):
        for rule in RULES:
            book = sample_book()
            with Held(book, rule):
                self.expect_refused(book, rule)
            self.expect(book, RULES)

    def test_the_same_object_twice(self):
        for rule in RULES:
            book = sample_book()
            held = Held(book, rule)
            with held:
                with self.assertRaises(BadRule):
                    with held:
                        self.fail("the block was entered")
                self.expect(book, left(RULES, [rule]))
            self.expect(book, RULES)

    def test_a_rule_that_names_a_held_pair(self):
        for outer in RULES[:3]:
            for inner in RULES:
                if outer[1:] in named_pairs(inner):
                    book = sample_book()
                    with Held(book, outer):
                        self.expect_refused(book, inner)
                    self.expect(book, RULES)

    def test_force_is_looked_at_on_entering(self):
        book = sample_book()
        made = Held(book, ("open", "l", "r"))
        with Held(book, ("pair", "l", "r")):
            made_inside = Held(book, ("open", "l", "r"))
            with self.assertRaises(BadRule):
                with made:
                    self.fail("the block was entered")
        with made_inside:
            self.expect(book, left(RULES, [("open", "l", "r")]))
        self.expect(book, RULES)


class Nested(Holding):
    def test_two_rules(self):
        for outer in RULES:
            for inner in left(RULES, [outer]):
                book = sample_book()
                with Held(book, outer):
                    with Held(book, inner) as same_book:
                        self.assertIs(same_book, book)
                        self.expect(book, left(RULES, [outer, inner]))
                    self.expect(book, left(RULES, [outer]))
                self.expect(book, RULES)

    def test_a_pair_rule_inside_a_rule_that_names_it(self):
        outer, inner = ("step", "l", "r", "l", "l"), ("pair", "l", "r")
        book = sample_book()
        with Held(book, outer):
            with Held(book, inner):
                self.expect_refused(book, outer)
                self.expect_refused(book, inner)
                self.assertNotIn(("open", "l", "r"), book)
            self.assertIn(("open", "l", "r"), book)
            self.assertNotIn(outer, book)
        self.expect(book, RULES)

    def test_two_pairs_of_one_step(self):
        book = sample_book()
        step = ("step", "l", "r", "l", "l")
        with Held(book, ("pair", "l", "r")):
            with Held(book, ("pair", "l", "l")):
                self.assertNotIn(step, book)
            self.assertNotIn(step, book)
        self.assertIn(step, book)

    def test_an_error_in_the_inner_block(self):
        book = sample_book()
        with Held(book, RULES[3]):
            with self.assertRaises(Failure):
                with Held(book, RULES[0]):
                    with Held(book, RULES[2]):
                        raise Failure()
            self.expect(book, left(RULES, [RULES[3]]))
        self.expect(book, RULES)

    def test_a_refused_inner_block_ends_the_outer_ones(self):
        book = sample_book()
        with self.assertRaises(BadRule) as caught:
            with Held(book, RULES[0]), Held(book, RULES[4]), Held(book, RULES[0]):
                self.fail("the block was entered")
        self.assertEqual(caught.exception.rule, RULES[0])
        self.expect(book, RULES)

    def test_any_depth(self):
        source = random.Random(9)
        for _ in range(60):
            self.descend(sample_book(), [], source)

    def descend(self, book, held, source):
        """Holds rules by chance, block in block, and looks at the book on each way down and up."""
        force = left(RULES, held)
        self.expect(book, force)
        absent = [rule for rule in RULES if rule not in force]
        if absent:
            self.expect_refused(book, source.choice(absent))
        if force and len(held) < 6:
            rule = source.choice(force)
            with Held(book, rule):
                self.descend(book, held + [rule], source)
            self.expect(book, force)


class Without(Holding):
    def test_no_rules(self):
        for rules in ([], ()):
            book = sample_book()
            other = without(book, rules)
            self.assertIsNot(other, book)
            self.assertIs(other.__class__, Book)
            self.expect(other, RULES)

    def test_each_rule(self):
        for rule in RULES:
            book = sample_book()
            self.expect(without(book, [rule]), left(RULES, [rule]))
            self.expect(book, RULES)

    def test_several_rules(self):
        source = random.Random(3)
        for _ in range(100):
            chosen, force = [], RULES
            for _ in range(5):
                if force:
                    chosen.append(source.choice(force))
                    force = left(RULES, chosen)
            book = sample_book()
            self.expect(without(book=book, rules=chosen), force)
            self.expect(book, RULES)

    def test_the_order_of_pairs_stays(self):
        book = Book(["r", "l"], [("pair", "l", "z"), ("pair", "l", "a"), ("pair", "l", "m"), ("pair", "r", "q")])
        self.assertEqual(without(book, [("pair", "l", "a")]).pairs, [("r", "q"), ("l", "z"), ("l", "m")])

    def test_given_notes_stay(self):
        book = Book(["z", "a"], [("pair", "a", "x")])
        other = without(book, [("pair", "a", "x")])
        self.assertEqual((other.given, other.rules), (("z", "a"), []))

    def test_forty_rules(self):
        pairs = [(note, answer) for note in "ab" for answer in "wxyz"]
        steps = [("step", *first, *second) for first in pairs for second in pairs]
        book = Book(["a", "b"], [("pair", *pair) for pair in pairs] + steps)
        for many in (40, 48):
            other = without(book, steps[:many])
            self.assertEqual(other.rules, [("pair", *pair) for pair in pairs] + steps[many:])
        self.assertEqual(len(book.rules), 72)

    def expect_bad(self, rules, bad):
        book = sample_book()
        listed = list(rules)
        with self.assertRaises(BadRule) as caught:
            without(book, listed)
        self.assertEqual(caught.exception.rule, bad)
        self.assertEqual(listed, rules)
        self.expect(book, RULES)

    def test_a_rule_not_in_force(self):
        for bad in ((), ("no",), ("pair", "l", "a"), ("open", "l", "l"), ("step", "r", "a", "r", "a")):
            self.expect_bad([bad], bad)
            self.expect_bad([RULES[0], RULES[4], bad, ("bad",)], bad)

    def test_a_rule_twice(self):
        for rule in RULES:
            self.expect_bad([rule, rule], rule)

    def test_a_rule_that_names_a_pair_held_before(self):
        self.expect_bad([("pair", "l", "r"), ("open", "l", "r")], ("open", "l", "r"))
        self.expect_bad([("pair", "l", "l"), RULES[4], ("step", "l", "r", "l", "l")], ("step", "l", "r", "l", "l"))
        self.expect(without(sample_book(), [("open", "l", "r"), ("pair", "l", "r")]), left(RULES, [RULES[1]]))

    def test_the_first_of_several(self):
        self.expect_bad([("one",), ("two",)], ("one",))
        self.expect_bad([RULES[0], ("two",), ("one",)], ("two",))

    def test_a_book_of_its_own(self):
        book = sample_book()
        other = without(book, [RULES[5]])
        with Held(book, RULES[0]):
            self.expect(other, left(RULES, [RULES[5]]))
        with Held(other, RULES[1]):
            self.expect(book, RULES)
            self.expect(other, left(RULES, [RULES[5], RULES[1]]))

    def test_inside_a_block(self):
        book = sample_book()
        with Held(book, RULES[2]):
            other = without(book, [RULES[3]])
            force = left(RULES, [RULES[2]])
            self.expect(book, force)
            with self.assertRaises(BadRule):
                without(book, [RULES[3], RULES[2]])
            self.expect(book, force)
        self.expect(book, RULES)
        self.expect(other, left(RULES, [RULES[2], RULES[3]]))

    def test_the_list_stays_as_it_is(self):
        rules = [RULES[0], RULES[4], RULES[6]]
        without(sample_book(), rules)
        self.assertEqual(rules, [RULES[0], RULES[4], RULES[6]])

    def test_everything_of_the_old_book_stays(self):
        book = sample_book()
        before = everything_of(book)
        without(book, RULES[3:])
        self.assertEqual(everything_of(book), before)


if __name__ == "__main__":
    unittest.main()
