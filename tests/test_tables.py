"""Plain machines made of tables, and the shapes that plain machines let by [2, 3, 4, 24, 25]."""

import copy
import itertools
import random
import unittest

from freshrooms.errors import NoFit, TooGreat
from freshrooms.plains import is_plain, plain_lets, stands_behind
from freshrooms.rows import exchanged, shape_of
from freshrooms.rowtexts import read_row
from freshrooms.tables import plain_by, shapes_of
from tests.oracles import let_slowly, rows_of
from tests.samples import AtOnce, check_refused, great_plain, lists_within, some_plains


def rows(*texts):
    return [read_row(text) for text in texts]


def shape_slowly(row):
    names = list(dict.fromkeys(name for sign, name in row))
    return [(sign, names.index(name)) for sign, name in row]


def plain_by_slowly(signs, table):
    """Each beginning is looked for in the list of them all."""
    shapes = [shape_slowly(row) for row in table]
    beginnings = [[]]
    for size in range(6):
        beginnings += sorted(shape for shape in rows_of(signs, size) if any(other[:size] == shape for other in shapes) and shape)
    told = []
    for shape in beginnings:
        own = len({name for sign, name in shape})
        told.append((own, shape in shapes, [[
            (beginnings.index(shape + [(sign, name)]), tuple(range(max(own, name + 1))))
            if shape + [(sign, name)] in beginnings else None
            for name in range(own + 1)
        ] for sign in signs]))
    return (list(signs), told)


def chance_table(chance, signs, most_names=3):
    return [
        [(chance.choice(signs), chance.choice([4, -4, 10 ** 59, 0][:chance.randint(1, most_names)])) for place in range(chance.randint(0, 5))]
        for row in range(chance.randint(0, 10))
    ]


class PlainByTest(unittest.TestCase):
    def test_without_rows(self):
        self.assertEqual(plain_by(["a"], []), (["a"], [(0, False, [[None]])]))
        self.assertEqual(plain_by(["a", "b", "c"], []), (["a", "b", "c"], [(0, False, [[None], [None], [None]])]))

    def test_the_row_without_signs(self):
        self.assertEqual(plain_by(["a"], [[]]), (["a"], [(0, True, [[None]])]))
        self.assertEqual(plain_by(["a", "b"], [[], []]), (["a", "b"], [(0, True, [[None], [None]])]))
        self.assertEqual(plain_by(["a"], rows("a:5", "-")), (["a"], [(0, True, [[(1, (0,))]]), (1, True, [[None, None]])]))

    def test_room_by_room(self):
        self.assertEqual(plain_by(["a", "b"], rows("a:7 b:7", "a:3 b:9 a:3", "b:1", "a:1")), (["a", "b"], [
            (0, False, [[(1, (0,))], [(2, (0,))]]),
            (1, True, [[None, None], [(3, (0,)), (4, (0, 1))]]),
            (1, True, [[None, None], [None, None]]),
            (1, True, [[None, None], [None, None]]),
            (2, False, [[(5, (0, 1)), None, None], [None, None, None]]),
            (2, True, [[None] * 3, [None] * 3]),
        ]))

    def test_three_unlike_names(self):
        self.assertEqual(plain_by(["a"], rows("a:9 a:8 a:7 a:8")), (["a"], [
            (0, False, [[(1, (0,))]]),
            (1, False, [[None, (2, (0, 1))]]),
            (2, False, [[None, None, (3, (0, 1, 2))]]),
            (3, False, [[None, (4, (0, 1, 2)), None, None]]),
            (3, True, [[None] * 4]),
        ]))

    def test_the_order_of_the_rooms(self):
        """By their lengths, then sign by name: a:0 a:1 ahead of a:0 b:0, whatever the order of the table."""
        table = rows("b:5 b:5", "b:5 a:6", "a:5 b:5", "a:5 b:6", "a:5 a:6", "a:5 a:5", "b:5 a:5", "-")
        told = plain_by(["a", "b"], table)
        for order in itertools.islice(itertools.permutations(table), 0, 5040, 97):
            self.assertEqual(plain_by(["a", "b"], list(order)), told)
        places = ["-", "a:0", "b:0", "a:0 a:0", "a:0 a:1", "a:0 b:0", "a:0 b:1", "b:0 a:0", "b:0 a:1", "b:0 b:0"]
        self.assertEqual(len(told[1]), len(places))
        for number, text in enumerate(places):
            self.assertEqual(stands_behind(told, read_row(text))[0], number)

    def test_rooms_of_signs_with_more_letters(self):
        told = plain_by(["a", "ab", "b"], rows("b:1", "ab:1", "a:1"))
        self.assertEqual([stands_behind(told, [(sign, 0)]) for sign in ["a", "ab", "b"]], [(1, (0,)), (2, (0,)), (3, (0,))])

    def test_rows_of_the_same_shape(self):
        one = plain_by(["a", "b"], rows("a:1 b:2 a:1"))
        for table in [rows("a:1 b:2 a:1", "a:2 b:1 a:2"), rows("a:-5 b:0 a:-5") * 10, [[("a", 10 ** 59), ("b", -3), ("a", 10 ** 59)]]]:
            self.assertEqual(plain_by(["a", "b"], table), one)

    def test_a_row_that_is_the_beginning_of_another(self):
        plain = plain_by(["a"], rows("a:1 a:2", "a:1 a:2 a:1 a:2"))
        self.assertEqual([good for own, good, steps in plain[1]], [False, False, True, False, True])

    def test_the_keepers_hold_the_names_in_the_order_in_which_they_came(self):
        plain = plain_by(["a"], rows("a:5 a:3 a:5 a:9 a:3"))
        self.assertEqual(stands_behind(plain, rows("a:5 a:3 a:5 a:9 a:3")[0]), (5, (5, 3, 9)))
        self.assertEqual(stands_behind(plain, rows("a:1 a:2 a:1 a:0")[0]), (4, (1, 2, 0)))

    def test_all_sorts(self):
        chance = random.Random(1)
        for number in range(60):
            signs = ["a", "b", "c"][:number % 3 + 1]
            table = chance_table(chance, signs)
            plain = plain_by(signs, table)
            self.assertTrue(is_plain(plain))
            self.assertEqual(plain, plain_by_slowly(signs, table))

    def test_it_lets_by_just_the_rows_of_these_shapes(self):
        chance = random.Random(2)
        let = 0
        for number in range(25):
            signs = ["a", "b"][:number % 2 + 1]
            table = chance_table(chance, signs)
            shapes = [shape_slowly(row) for row in table]
            plain = plain_by(signs, table)
            for row in table:
                for pairs in [[], [(4, 0), (0, 4)], [(4, 10 ** 60 - 1), (-4, 7)]]:
                    self.assertIs(plain_lets(plain, exchanged(row, pairs)), True)
            for row in itertools.chain(*[rows_of(signs, size) for size in range(6)]):
                self.assertIs(plain_lets(plain, row), row in shapes)
                let += row in shapes
            for row in table:
                self.assertIs(plain_lets(plain, row + [("a", 4)]), shape_slowly(row + [("a", 4)]) in shapes)
                self.assertIs(plain_lets(plain, row + [("zz", 4)]), False)
        self.assertGreater(let, 60)

    def test_more_than_a_table_has(self):
        """Rows and signs somewhat beyond the bounds are not refused."""
        table = [[("a", place % 3) for place in range(size)] for size in range(8)] + [[("b", 0)]] * 6
        plain = plain_by(["a", "b"], table)
        self.assertEqual(len(plain[1]), 9)
        self.assertIs(plain_lets(plain, [("a", place % 3) for place in range(7)]), True)


class TableRefusedTest(unittest.TestCase):
    def test_a_strange_sign(self):
        for table in [rows("b:1"), rows("a:1", "a:1 a:1 a:1 a:1 b:1"), rows("b:1", "a:1"), rows("aa:1"), rows("-", "a:2 c:1 a:2")]:
            check_refused(self, NoFit, plain_by, ["a"], table)
        check_refused(self, NoFit, plain_by, ["a", "ab"], rows("b:1"))
        check_refused(self, NoFit, plain_by, ["abc"], rows("ab:1"))

    def test_four_unlike_names(self):
        for table in [rows("a:1 a:2 a:3 a:4"), rows("a:1", "a:1 a:2 a:3 a:3 a:4"), rows("a:1 a:2 a:3 a:4 a:5", "-")]:
            check_refused(self, TooGreat, plain_by, ["a"], table)
        self.assertTrue(is_plain(plain_by(["a"], rows("a:1 a:2 a:3 a:3 a:1", "a:4 a:5 a:6"))))

    def test_both(self):
        for table in [
            rows("a:1 a:2 a:3 a:4", "b:1"), rows("b:1", "a:1 a:2 a:3 a:4"), rows("a:1 a:2 a:3 b:4"), rows("b:1 b:2 b:3 b:4"),
            rows("a:1 a:2 a:3 a:4 b:1"),
        ]:
            check_refused(self, NoFit, plain_by, ["a"], table)


class ShapesOfTest(unittest.TestCase):
    def test_by_hand(self):
        seen = (["a", "b"], [
            (0, True, [[(1, (0,))], [None]]), (1, False, [[(1, (0,)), (1, (0,))], [(2, ()), None]]), (0, True, [[None], [(2, ())]]),
        ])
        for many, told in [
            (0, rows("-")),
            (1, []),
            (2, rows("a:0 b:0")),
            (3, rows("a:0 a:0 b:0", "a:0 a:1 b:0", "a:0 b:0 b:0", "a:0 b:0 b:1")),
            (4, rows(
                "a:0 a:0 a:0 b:0", "a:0 a:0 a:1 b:0", "a:0 a:0 b:0 b:0", "a:0 a:0 b:0 b:1", "a:0 a:1 a:0 b:0", "a:0 a:1 a:1 b:0",
                "a:0 a:1 a:2 b:0", "a:0 a:1 b:0 b:0", "a:0 a:1 b:0 b:1", "a:0 a:1 b:0 b:2", "a:0 b:0 b:0 b:0", "a:0 b:0 b:0 b:1",
                "a:0 b:0 b:1 b:0", "a:0 b:0 b:1 b:1", "a:0 b:0 b:1 b:2",
            )),
        ]:
            with self.subTest(many=many):
                self.assertEqual(shapes_of(seen, many), told)

    def test_all_shapes(self):
        every = (["a", "b", "c"], [(0, True, [[(0, ())]] * 3)])
        for many, told in [(0, 1), (1, 3), (2, 18), (3, 135), (4, 1215)]:
            shapes = shapes_of(every, many)
            self.assertEqual(len(shapes), told)
            self.assertEqual(shapes, sorted(shapes))
            self.assertEqual(shapes, rows_of(["a", "b", "c"], many))

    def test_none(self):
        for many in range(5):
            self.assertEqual(shapes_of((["a"], [(0, False, [[(0, ())]])]), many), [])
        self.assertEqual(shapes_of((["a"], [(0, False, [[None]])]), 0), [])

    def test_all_sorts(self):
        for plain in some_plains(60):
            for many in range(5):
                told = [row for row in rows_of(plain[0], many) if let_slowly(plain, row)]
                self.assertEqual(shapes_of(plain, many), told)

    def test_machines_that_are_not_small(self):
        six = (["a"], [(min(number, 6), True, [
            [None] * min(number, 6) + [(min(number + 1, 199), tuple(range(min(number + 1, 6))))]
        ]) for number in range(200)])
        self.assertTrue(is_plain(six))
        for many in range(5):
            self.assertEqual(shapes_of(six, many), [[("a", name) for name in range(many)]])
        with AtOnce(20):
            self.assertEqual(shapes_of(great_plain(random.Random(1), good=1.0), 4), rows_of(["a", "b", "c"], 4))

    def test_of_a_machine_made_of_a_table(self):
        chance = random.Random(3)
        for number in range(40):
            table = chance_table(chance, ["a", "b"])
            plain = plain_by(["a", "b"], table)
            for many in range(5):
                told = sorted({tuple(shape_of(row)) for row in table if len(row) == many})
                self.assertEqual(shapes_of(plain, many), [list(row) for row in told])

    def test_more_signs_or_fewer_than_none(self):
        for plain in [(["a"], [(0, True, [[None]])]), (["a"], [(0, True, [[(0, ())]])])]:
            for many in [5, 6, 9, 60, 10 ** 70, -1, -2, -60, -(10 ** 70)]:
                check_refused(self, TooGreat, shapes_of, plain, many)

    def test_its_kinds(self):
        told = shapes_of((["a"], [(0, True, [[(0, ())]])]), 2)
        self.assertEqual([type(told), type(told[0]), type(told[0][0]), type(told[0][0][1])], [list, list, tuple, int])


class OwnTest(unittest.TestCase):
    def test_what_is_handed_in_stays_as_it_was(self):
        signs, table = ["a", "b"], rows("a:7 b:7", "a:3 b:9 a:3", "-")
        told = plain_by(signs, table)
        kept = copy.deepcopy(told)
        self.assertEqual((signs, table), (["a", "b"], rows("a:7 b:7", "a:3 b:9 a:3", "-")))
        shapes_of(told, 3)
        self.assertEqual(told, kept)
        signs.clear()
        table[0].clear()
        table.clear()
        self.assertEqual(told, kept)

    def test_every_list_is_a_new_one(self):
        signs, table = ["a", "b"], rows("a:7 b:7", "a:3 b:9 a:3", "-")
        plain = plain_by(signs, table)
        lists = lists_within([plain, plain_by(signs, table), signs, table])
        self.assertEqual(len({id(one) for one in lists}), len(lists))
        for many in range(4):
            lists = lists_within([shapes_of(plain, many), shapes_of(plain, many), plain])
            self.assertEqual(len({id(one) for one in lists}), len(lists))

    def test_what_was_told_may_be_changed(self):
        signs, table = ["a", "b"], rows("a:7 b:7", "a:3 b:9 a:3", "-")
        plain = plain_by(signs, table)
        for call in [lambda: plain_by(signs, table), lambda: shapes_of(plain, 3), lambda: shapes_of(plain, 0)]:
            told = call()
            kept = copy.deepcopy(told)
            for one in lists_within(told):
                one.clear()
            self.assertEqual(call(), kept)


if __name__ == "__main__":
    unittest.main()
