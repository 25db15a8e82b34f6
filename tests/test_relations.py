"""Point 9 and the interface of relations."""

import random
import unittest
from itertools import permutations, product

from lookvoice.errors import BadPlace, SizeMismatch
from lookvoice.relations import Relation, identity
from samples import error_of

FAR = 10 ** 29 + 7
OPERATORS = [lambda a, b: a | b, lambda a, b: a & b, lambda a, b: a * b]


def couples_of(relation):
    return {(place, end) for place, row in enumerate(relation.rows) for end in row}


def relation_of(size, couples):
    return Relation([[end for end in range(size) if (place, end) in couples] for place in range(size)])


def chance_couples(source, size, share):
    return {couple for couple in product(range(size), repeat=2) if source.randrange(100) < share}


class Places(unittest.TestCase):
    def expect_bad(self, action, place):
        error = error_of(action)
        self.assertIs(error.__class__, BadPlace)
        self.assertEqual(error.place, place)
        self.assertEqual(vars(error), {"place": place})


class Making(Places):
    def test_no_rows(self):
        for rows in ([], ()):
            relation = Relation(rows)
            self.assertEqual((relation.size, relation.rows), (0, ()))

    def test_lists_and_tuples(self):
        for rows in ([[1], [0, 1]], ((1,), (0, 1)), [(1,), [0, 1]], ([1], (0, 1))):
            relation = Relation(rows)
            self.assertEqual((relation.size, relation.rows), (2, ((1,), (0, 1))))

    def test_rows_by_name(self):
        self.assertEqual(Relation(rows=[[0]]).rows, ((0,),))

    def test_orders_and_duplicates(self):
        for row in permutations([0, 1, 2, 11]):
            relation = Relation([list(row), row + row, [], [3, 3, 3]] + [[]] * 8)
            self.assertEqual(relation.rows[:4], ((0, 1, 2, 11), (0, 1, 2, 11), (), (3,)))
            self.assertEqual(relation.size, 12)

    def test_kinds_of_values(self):
        relation = Relation([[1, 0], []])
        self.assertIs(relation.rows.__class__, tuple)
        for row in relation.rows:
            self.assertIs(row.__class__, tuple)

    def test_a_later_change_of_the_rows(self):
        rows = [[1, 0], [1, 1]]
        relation = Relation(rows)
        self.assertEqual(rows, [[1, 0], [1, 1]])
        rows[0].append(1)
        del rows[1][:]
        rows.append([0])
        self.assertEqual((relation.size, relation.rows), (2, ((0, 1), (1,))))

    def test_bad_places(self):
        for bad in (-1, -3, 3, 4, FAR, -FAR):
            for row, at in product(range(3), range(3)):
                rows = [[0, 2], [1, 0], [2, 2]]
                rows[row].insert(at, bad)
                self.expect_bad(lambda: Relation(rows), bad)
                self.expect_bad(lambda: Relation(tuple(map(tuple, rows))), bad)

    def test_the_first_of_two_bad_places(self):
        self.expect_bad(lambda: Relation([[0, 5], [-1, 0]]), 5)
        self.expect_bad(lambda: Relation([[0], [7, -1]]), 7)
        self.expect_bad(lambda: Relation([[0], [-1, 7]]), -1)
        self.expect_bad(lambda: Relation([[FAR, 2], [3]]), FAR)
        self.expect_bad(lambda: Relation([[], [1, 2, FAR]]), 2)
        self.expect_bad(lambda: Relation([[], [1, 2, FAR], [-1]]), FAR)

    def test_no_place_is_in_the_range_of_one_row_too_few(self):
        self.assertEqual(Relation([[0]]).rows, ((0,),))
        self.expect_bad(lambda: Relation([[1]]), 1)
        self.expect_bad(lambda: Relation([[0, 1, 2, 3], [], []]), 3)


class Operators(Places):
    def test_by_hand(self):
        first, second = Relation([[0, 1], [2], []]), Relation([[1], [0], [1, 2]])
        self.assertEqual((first | second).rows, ((0, 1), (0, 2), (1, 2)))
        self.assertEqual((first & second).rows, ((1,), (), ()))
        self.assertEqual((first * second).rows, ((0, 1), (1, 2), ()))
        self.assertEqual((second * first).rows, ((2,), (0, 1), (2,)))

    def test_all_relations_of_two_places(self):
        couples = list(product(range(2), repeat=2))
        every = [{c for c, bit in zip(couples, bits) if bit} for bits in product((0, 1), repeat=4)]
        for mine, theirs in product(every, every):
            self.expect_operators(2, mine, theirs)

    def test_relations_by_chance(self):
        source = random.Random(8)
        for _ in range(150):
            size = source.randrange(9)
            share = source.choice([5, 20, 50, 90])
            self.expect_operators(size, chance_couples(source, size, share), chance_couples(source, size, share))

    def expect_operators(self, size, mine, theirs):
        first, second = relation_of(size, mine), relation_of(size, theirs)
        before = (first.rows, second.rows)
        chained = {(p, r) for p, q in mine for other, r in theirs if q == other}
        for found, couples in ((first | second, mine | theirs), (first & second, mine & theirs),
                               (first * second, chained)):
            self.assertIs(found.__class__, Relation)
            self.assertEqual(found.size, size)
            self.assertEqual(found.rows, relation_of(size, couples).rows)
        self.assertEqual((first.rows, second.rows), before)

    def test_without_couples(self):
        some, none = Relation([[1], [0, 1], [2, 0]]), Relation([[], [], []])
        self.assertEqual(((some | none).rows, (none | some).rows), (some.rows, some.rows))
        for found in (some & none, none & some, some * none, none * some, none | none, none & none, none * none):
            self.assertEqual(found.rows, none.rows)

    def test_with_itself(self):
        some = Relation([[1], [2, 1], []])
        self.assertEqual(((some | some).rows, (some & some).rows), (some.rows, some.rows))
        self.assertEqual((some * some).rows, ((1, 2), (1, 2), ()))
        self.assertEqual(some.rows, ((1,), (1, 2), ()))

    def test_of_size_0(self):
        for operate in OPERATORS:
            found = operate(Relation([]), identity(0))
            self.assertEqual((found.size, found.rows), (0, ()))

    def test_what_is_found_is_new(self):
        some = Relation([[1], [0]])
        for operate in OPERATORS:
            self.assertIsNot(operate(some, some), some)
            self.assertIsNot(operate(some, identity(2)), some)

    def test_sizes_that_differ(self):
        for mine, theirs in permutations([0, 1, 2, 3, 17], 2):
            for operate in OPERATORS:
                error = error_of(lambda: operate(identity(mine), identity(theirs)))
                self.assertIs(error.__class__, SizeMismatch)
                error = error_of(lambda: operate(Relation([[]] * mine), Relation([[]] * theirs)))
                self.assertIs(error.__class__, SizeMismatch)

    def test_products_of_three(self):
        source = random.Random(2)
        for _ in range(100):
            a, b, c = [relation_of(6, chance_couples(source, 6, 25)) for _ in range(3)]
            self.assertEqual(((a * b) * c).rows, (a * (b * c)).rows)
            self.assertEqual((a * (b | c)).rows, (a * b | a * c).rows)


class Couples(unittest.TestCase):
    def test_all_couples(self):
        couples = {(0, 1), (1, 1), (2, 0), (2, 2)}
        relation = relation_of(3, couples)
        for couple in product(range(-4, 7), repeat=2):
            self.assertIs(couple in relation, couple in couples)

    def test_out_of_range(self):
        full = Relation([[0, 1], [0, 1]])
        for out in (-1, -2, -3, 2, 3, FAR, -FAR):
            for place in (0, 1, out):
                self.assertIs((place, out) in full, False)
                self.assertIs((out, place) in full, False)
        self.assertIs((0, 0) in Relation([]), False)


class Reach(Places):
    def test_by_hand(self):
        relation = Relation([[3, 1], [1], [], [0, 3]])
        self.assertEqual(relation.reach([0]), (1, 3))
        self.assertEqual(relation.reach([2]), ())
        self.assertEqual(relation.reach(places=[3, 1]), (0, 1, 3))

    def test_no_places(self):
        for places in ([], ()):
            self.assertEqual(Relation([[0, 1], [1]]).reach(places), ())
            self.assertEqual(identity(0).reach(places), ())

    def test_orders_and_duplicates(self):
        relation = Relation([[4], [3, 0], [2, 4], [], [1]])
        for places in permutations([0, 1, 2, 3]):
            for handed in (places, list(places), places + places, [2] + list(places) + [0]):
                found = relation.reach(handed)
                self.assertEqual(found, (0, 2, 3, 4))
                self.assertIs(found.__class__, tuple)

    def test_many_places_come_in_order(self):
        self.assertEqual(identity(40).reach(list(range(39, -1, -1))), tuple(range(40)))

    def test_bad_places(self):
        relation = Relation([[0, 1, 2], [], [1]])
        for bad in (-1, -3, 3, 4, FAR, -FAR):
            for at in range(4):
                places = [0, 1, 2]
                places.insert(at, bad)
                self.expect_bad(lambda: relation.reach(places), bad)
                self.expect_bad(lambda: relation.reach(tuple(places)), bad)
        self.expect_bad(lambda: relation.reach([0, 3, -1]), 3)
        self.expect_bad(lambda: relation.reach([-1, 3]), -1)
        self.expect_bad(lambda: identity(0).reach([0]), 0)

    def test_the_places_stay_as_they_are(self):
        places = [2, 0, 2]
        Relation([[1], [], [0]]).reach(places)
        self.assertEqual(places, [2, 0, 2])

    def test_a_product_against_twice(self):
        source = random.Random(6)
        for _ in range(100):
            a, b = [relation_of(7, chance_couples(source, 7, 25)) for _ in range(2)]
            places = [source.randrange(7) for _ in range(source.randrange(4))]
            self.assertEqual((a * b).reach(places), b.reach(a.reach(places)))


class Identity(unittest.TestCase):
    def test_sizes(self):
        for size in (0, 1, 2, 17, 300):
            found = identity(size)
            self.assertIs(found.__class__, Relation)
            self.assertEqual(found.size, size)
            self.assertEqual(found.rows, tuple((place,) for place in range(size)))
        self.assertEqual(identity(size=3).rows, ((0,), (1,), (2,)))

    def test_changes_nothing_in_products(self):
        source = random.Random(1)
        for size in range(7):
            some = relation_of(size, chance_couples(source, size, 40))
            self.assertEqual((some * identity(size)).rows, some.rows)
            self.assertEqual((identity(size) * some).rows, some.rows)


if __name__ == "__main__":
    unittest.main()
