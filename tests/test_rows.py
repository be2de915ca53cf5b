"""Signs, names, shapes and exchanges [2, 3, 5, 6]."""

import copy
import itertools
import unittest

from freshrooms.errors import NoExchange, RoomError
from freshrooms.rows import exchange_of, exchanged, is_name, is_sign, shape_of

GREATEST = 10 ** 60 - 1
OTHER_THINGS = [None, True, False, [], ["a"], (), ("a",), (1,), {}, {"a": 1}, set(), b"a", object(), int, str]


def small_rows():
    signs = list(itertools.product(["a", "b"], [7, -1, 0]))
    return [list(row) for many in range(4) for row in itertools.product(signs, repeat=many)]


def named_alike(one, other):
    """Whether the two rows differ in their names alone, said without shapes."""
    if [sign for sign, name in one] != [sign for sign, name in other]:
        return False
    places = range(len(one))
    return all((one[i][1] == one[j][1]) == (other[i][1] == other[j][1]) for i in places for j in places)


class SignTest(unittest.TestCase):
    def test_words(self):
        for word in ["a", "z", "m", "ab", "room", "signs", "fresh", "abcdefgh", "zzzzzzzz"]:
            with self.subTest(word=word):
                self.assertIs(is_sign(word), True)

    def test_every_letter(self):
        for letter in "abcdefghijklmnopqrstuvwxyz":
            self.assertIs(is_sign(letter), True)

    def test_too_short_and_too_long(self):
        for text in ["", "abcdefghi", "a" * 9, "a" * 9000]:
            with self.subTest(text=text[:10]):
                self.assertIs(is_sign(text), False)

    def test_other_signs(self):
        texts = ["A", "aB", "a1", "1", "a b", " a", "a ", "a\n", "\na", "-", "a-b", "a_b", "a:", "`", "{", "\u00e4", "\u00df"]
        for text in texts:
            with self.subTest(text=text):
                self.assertIs(is_sign(text), False)

    def test_other_kinds(self):
        for thing in OTHER_THINGS + [0, 1, -5]:
            with self.subTest(thing=thing):
                self.assertIs(is_sign(thing), False)


class NameTest(unittest.TestCase):
    def test_names(self):
        for name in [0, 1, -1, 9, 10, -10, 123456789012345678901234567890, GREATEST, -GREATEST]:
            with self.subTest(name=name):
                self.assertIs(is_name(name), True)

    def test_sixty_one_figures(self):
        for number in [GREATEST + 1, -GREATEST - 1, 10 ** 61, -(10 ** 61), 10 ** 9000, -(10 ** 9000)]:
            self.assertIs(is_name(number), False)

    def test_other_kinds(self):
        for thing in OTHER_THINGS + ["", "0", "1", "a"]:
            with self.subTest(thing=thing):
                self.assertIs(is_name(thing), False)


class ShapeTest(unittest.TestCase):
    def test_shapes(self):
        cases = [
            ([], []),
            ([("a", 5)], [("a", 0)]),
            ([("a", 5), ("b", 5)], [("a", 0), ("b", 0)]),
            ([("a", 5), ("a", 3), ("b", 5)], [("a", 0), ("a", 1), ("b", 0)]),
            ([("a", 1), ("a", 0), ("a", 2), ("a", 0)], [("a", 0), ("a", 1), ("a", 2), ("a", 1)]),
            ([("a", GREATEST), ("b", -GREATEST), ("c", 0)], [("a", 0), ("b", 1), ("c", 2)]),
            ([("a", 1), ("a", -1)], [("a", 0), ("a", 1)]),
        ]
        for row, shape in cases:
            with self.subTest(row=row):
                self.assertEqual(shape_of(row), shape)

    def test_sixty_unlike_names(self):
        row = [("a", -place) for place in range(60)]
        self.assertEqual(shape_of(row), [("a", place) for place in range(60)])

    def test_a_row_somewhat_beyond_the_bounds_is_not_refused(self):
        self.assertEqual(shape_of([("a", 10 ** 60)] * 61), [("a", 0)] * 61)

    def test_a_shape_is_its_own_shape(self):
        for row in small_rows():
            self.assertEqual(shape_of(shape_of(row)), shape_of(row))

    def test_shapes_are_equal_just_where_rows_differ_in_names_alone(self):
        rows = small_rows()
        for one in rows:
            for other in rows:
                self.assertEqual(shape_of(one) == shape_of(other), named_alike(one, other))


class ExchangedTest(unittest.TestCase):
    def test_ordinary(self):
        row = [("a", 1), ("b", 2), ("a", 1)]
        cases = [
            ([], row),
            ([(1, 5)], [("a", 5), ("b", 2), ("a", 5)]),
            ([(1, 5), (2, 6)], [("a", 5), ("b", 6), ("a", 5)]),
            ([(9, 8)], row),
            ([(1, 1)], row),
            ([(2, -GREATEST)], [("a", 1), ("b", -GREATEST), ("a", 1)]),
        ]
        for pairs, told in cases:
            with self.subTest(pairs=pairs):
                self.assertEqual(exchanged(row, pairs), told)

    def test_by_turns_among_the_names_of_the_row(self):
        row = [("a", 1), ("a", 2), ("b", 3), ("b", 1)]
        self.assertEqual(exchanged(row, [(1, 2), (2, 1)]), [("a", 2), ("a", 1), ("b", 3), ("b", 2)])
        self.assertEqual(exchanged(row, [(1, 2), (2, 3), (3, 1)]), [("a", 2), ("a", 3), ("b", 1), ("b", 2)])
        self.assertEqual(exchanged(row, [(3, 4), (2, 3), (1, 2)]), [("a", 2), ("a", 3), ("b", 4), ("b", 2)])

    def test_a_new_name_that_the_row_has_is_free_where_it_is_given_up(self):
        self.assertEqual(exchanged([("a", 1), ("a", 2)], [(1, 2), (2, 3)]), [("a", 2), ("a", 3)])

    def test_a_new_name_that_only_an_old_outside_the_row_has(self):
        self.assertEqual(exchanged([("a", 1)], [(1, 2)]), [("a", 2)])
        self.assertEqual(exchanged([("a", 1)], [(1, 2), (2, 1)]), [("a", 2)])

    def test_two_names_that_would_become_one(self):
        cases = [
            ([("a", 1), ("a", 2)], [(1, 2)]),
            ([("a", 2), ("a", 1)], [(1, 2)]),
            ([("a", 1), ("b", 5), ("a", 2)], [(1, 5), (5, 2)]),
            ([("a", 0), ("a", 0), ("b", -1)], [(-1, 0)]),
        ]
        for row, pairs in cases:
            with self.subTest(row=row, pairs=pairs):
                with self.assertRaises(NoExchange) as caught:
                    exchanged(row, pairs)
                self.assertIsInstance(caught.exception, RoomError)

    def test_the_row_without_signs(self):
        self.assertEqual(exchanged([], []), [])
        self.assertEqual(exchanged([], [(1, 2), (2, 1)]), [])

    def test_sixty_signs(self):
        row = [("a", place) for place in range(60)]
        pairs = [(place, (place + 1) % 60) for place in range(60)]
        self.assertEqual(exchanged(row, pairs), [("a", (place + 1) % 60) for place in range(60)])


class ExchangeOfTest(unittest.TestCase):
    def test_ordinary(self):
        cases = [
            ([], [], []),
            ([("a", 1)], [("a", 7)], [(1, 7)]),
            ([("a", 1)], [("a", 1)], [(1, 1)]),
            ([("a", 5), ("b", 3), ("a", 5)], [("a", 0), ("b", 9), ("a", 0)], [(3, 9), (5, 0)]),
            ([("a", 1), ("a", 2)], [("a", 2), ("a", 1)], [(1, 2), (2, 1)]),
            ([("a", 10), ("a", 9), ("a", -3)], [("a", 1), ("a", 2), ("a", 3)], [(-3, 3), (9, 2), (10, 1)]),
        ]
        for one, other, pairs in cases:
            with self.subTest(one=one, other=other):
                self.assertEqual(exchange_of(one, other), pairs)

    def test_none(self):
        cases = [
            ([], [("a", 1)]),
            ([("a", 1)], []),
            ([("a", 1)], [("b", 1)]),
            ([("a", 1), ("a", 1)], [("a", 1)]),
            ([("a", 1)], [("a", 1), ("a", 1)]),
            ([("a", 1), ("a", 1)], [("a", 1), ("a", 2)]),
            ([("a", 1), ("a", 2)], [("a", 1), ("a", 1)]),
        ]
        for one, other in cases:
            with self.subTest(one=one, other=other):
                self.assertIsNone(exchange_of(one, other))

    def test_there_is_one_just_where_the_shapes_are_equal_and_it_leads_over(self):
        rows = small_rows()
        for one in rows:
            for other in rows:
                pairs = exchange_of(one, other)
                self.assertEqual(pairs is not None, named_alike(one, other))
                if pairs is not None:
                    self.assertEqual(exchanged(one, pairs), other)
                    self.assertEqual([old for old, new in pairs], sorted({name for sign, name in one}))


class OwnershipTest(unittest.TestCase):
    def test_what_is_handed_in_stays_as_it_was(self):
        row = [("a", 5), ("b", 3), ("a", 5)]
        other = [("a", 1), ("b", 2), ("a", 1)]
        pairs = [(5, 6), (3, 5)]
        kept = copy.deepcopy((row, other, pairs))
        shape_of(row)
        exchanged(row, pairs)
        exchange_of(row, other)
        with self.assertRaises(NoExchange):
            exchanged(row, [(5, 3)])
        self.assertEqual((row, other, pairs), kept)

    def test_what_is_told_is_the_askers_own(self):
        shape = [("a", 0), ("b", 1)]
        calls = [
            lambda: shape_of(shape),
            lambda: exchanged(shape, []),
            lambda: exchanged(shape, [(0, 0)]),
            lambda: exchange_of(shape, shape),
            lambda: shape_of([]),
            lambda: exchanged([], []),
            lambda: exchange_of([], []),
        ]
        for call in calls:
            told = call()
            kept = list(told)
            self.assertIsNot(told, shape)
            self.assertIsInstance(told, list)
            told.append(("z", 99))
            self.assertEqual(call(), kept)
        self.assertEqual(shape, [("a", 0), ("b", 1)])

    def test_rows_and_pairs_are_of_tuples(self):
        row = [("a", 4), ("b", 4)]
        for told in [shape_of(row), exchanged(row, [(4, 5)]), exchange_of(row, row)]:
            for thing in told:
                self.assertIsInstance(thing, tuple)

    def test_what_is_done_afterwards_changes_nothing(self):
        row = [("a", 4), ("b", 6)]
        pairs = [(4, 5)]
        told = [shape_of(row), exchanged(row, pairs), exchange_of(row, row)]
        kept = copy.deepcopy(told)
        row.clear()
        pairs.clear()
        self.assertEqual(told, kept)


if __name__ == "__main__":
    unittest.main()
