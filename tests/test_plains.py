"""What is a plain machine, which ones are small, and how they read rows [2, 3, 4, 13, 14]."""

import copy
import unittest

from freshrooms.plains import is_plain, is_small, plain_lets, read_by, stands_behind
from freshrooms.rows import exchanged, shape_of
from tests.oracles import read_slowly
from tests.samples import ANYTHING, Pliant, Stubborn, some_plains, some_rows


def ordinary():
    """Signs a and b; rooms of 0, 1, 2 and 0 keepers."""
    return (["a", "b"], [
        (0, False, [[(1, (0,))], [None]]),
        (1, False, [[None, (2, (1, 0))], [(3, ()), (1, (1,))]]),
        (2, True, [[(2, (1, 0)), (1, (0,)), (2, (2, 0))], [None, (3, ()), (1, (2,))]]),
        (0, True, [[None], [(3, ())]]),
    ])


def with_signs(signs, many=1):
    return (signs, [(0, True, [[None]] * many)])


def with_rooms(rooms):
    return (["a"], rooms)


def with_first(keepers=0, good=True, steps=None):
    return with_rooms([(keepers, good, [[None]] if steps is None else steps)])


def with_later(keepers=2, good=True, steps=None):
    """Rooms of 0, 2 (or as many as are handed in), 0, 2 and 3 keepers; what is handed in stands in the second one."""
    cases = [[None] * 3] if steps is None else steps
    return with_rooms([(0, False, [[None]]), (keepers, good, cases), (0, True, [[None]]), (2, True, [[None] * 3]),
                       (3, True, [[None] * 4])])


def with_cases(cases):
    return with_later(steps=[cases])


def with_held(case):
    return with_cases([None, case, None])


def with_last(case):
    return with_cases([None, None, case])


def chain(rooms, keepers):
    """As many rooms, of as many keepers but for the first ones, which gather them."""
    counts = [min(number, keepers) for number in range(rooms)]
    return (["a", "b", "c"], [
        (own, number % 2 == 0, [
            [(number, tuple(range(own)))] * own + [(min(number + 1, rooms - 1), tuple(range(counts[min(number + 1, rooms - 1)])))]
            for sign in "abc"
        ])
        for number, own in enumerate(counts)
    ])


PLAINS = [
    ordinary(),
    with_signs(["a"]), with_signs(["a", "b"], 2), with_signs(["a", "b", "c"], 3), with_signs(["a", "aa", "abcdefgh"], 3),
    with_first(good=False), with_first(steps=[[(0, ())]]),
    with_rooms([(0, True, [[None]])] * 200),
    with_rooms([(0, True, [[None]]), (6, False, [[None] * 7])]),
    with_rooms([(0, True, [[None]]), (6, False, [[(1, (5, 4, 3, 2, 1, 0))] * 6 + [(1, (6, 5, 4, 3, 2, 1))]])]),
    with_rooms([(0, True, [[(199, ())]])] * 200),
    chain(200, 6), chain(200, 0), chain(1, 6), chain(7, 6), chain(12, 3),
    with_later(),
    with_held(None), with_held((0, ())), with_held((2, ())), with_held((1, (0, 1))), with_held((1, (1, 0))), with_held((3, (1, 0))),
    with_last((0, ())), with_last((1, (0, 1))), with_last((1, (2, 0))), with_last((1, (0, 2))), with_last((4, (2, 1, 0))),
    with_last((4, (0, 1, 2))),
    with_cases([(1, (0, 1))] * 3),
] + some_plains(100)

SPOILED = {
    "the whole": [
        list(ordinary()), ordinary()[:1], ordinary() + ([],), ordinary()[::-1], [ordinary()], (ordinary(),), (ordinary(), ordinary()),
    ],
    "signs": [with_signs(signs, many) for signs, many in [
        ([], 0), ([], 1), (["a", "b", "c", "d"], 4), (["b", "a"], 2), (["a", "c", "b"], 3), (["a", "a"], 2), (["a", "b", "b"], 3),
        (("a",), 1), ("a", 1), ("ab", 2), ({"a": 1}, 1), (None, 1), (True, 1), (1, 1), ([""], 1), (["abcdefghi"], 1), (["A"], 1),
        (["a1"], 1), (["a\n"], 1), ([1], 1), ([None], 1), ([True], 1), (["a", 1], 2), ([1, "a"], 2), ([["a"]], 1), ([("a",)], 1),
        ([b"a"], 1),
    ]],
    "rooms": [with_rooms(rooms) for rooms in [
        [], [(0, True, [[None]])] * 201, [(0, True, [[None]])] * 2000, ((0, True, [[None]]),), None, True, 1, "room",
        {0: (0, True, [[None]])}, (0, True, [[None]]), [None], [True], [1], ["abc"], [[]], [{}], [()], [[0, True, [[None]]]],
        [(0,)], [(0, True)], [(0, True, [[None]], [])], [(True, 0, [[None]])], [([[None]], True, 0)],
        [(0, True, [[None]]), None], [(0, True, [[None]]), [0, True, [[None]]]], [(0, True, [[None]]), (0, True)],
        [(0, True, [[None]]), ()],
    ]],
    "keepers of the first room": [
        with_first(keepers=1, steps=[[None, None]]), with_first(keepers=6, steps=[[None] * 7]), with_first(keepers=1),
        with_rooms([(1, True, [[None] * 2]), (0, True, [[None]])]),
        (["a"], [(1, True, [[(0, (0,)), (0, (1,))]])]),
    ],
    "keepers": [with_first(keepers=keepers) for keepers in [-1, 7, True, False, None, "0", [], (), {}, [0], (0,)]] + [
        with_later(keepers=keepers) for keepers in [0, 1, 3, -1, 7, 10 ** 70, True, False, None, "2", [2], (2,)]
    ] + [
        with_later(keepers=-1, steps=[[]]), with_later(keepers=7, steps=[[None] * 8]), with_later(keepers=True, steps=[[None] * 2]),
        with_later(keepers=False, steps=[[None]]),
    ],
    "good": [with_first(good=good) for good in [0, 1, 2, None, "True", "good", "", [], [True], (), (True,), {}]] + [
        with_later(good=good) for good in [0, 1, None]
    ],
    "steps": [with_first(steps=steps) for steps in [
        [], [[None], [None]], ([None],), (), {}, {0: [None]}, True, 0, "", "a", [None], [True], [0], ["a"], [()], [(None,)], [{}],
    ]] + [
        (["a", "b"], [(0, True, steps)]) for steps in [
            [[None]], [[None]] * 3, [], [[None], None], [[None], (None,)], [[None], []], [None, [None]],
        ]
    ],
    "cases": [with_first(steps=[cases]) for cases in [[], [None, None], [None] * 3, (None,), None, {0: None}, "a", 1]] + [
        with_cases(cases) for cases in [[], [None], [None] * 2, [None] * 4, (None,) * 3, None, "abc", {}, 3, True]
    ],
    "a held case": [with_held(case) for case in [
        True, False, 0, 1, "", "none", [], {}, (), (0,), ((),), (0, (), ()), [0, ()], ((), 0),
        (-1, ()), (5, ()), (200, ()), (10 ** 70, ()), (True, (0, 1)), (False, ()), (None, ()), ("0", ()), ([], ()), ((), ()),
        (0, []), (0, None), (0, ""), (0, 0), (0, {}), (0, False), (0, (0,)), (0, (None,)),
        (1, ()), (1, (0,)), (1, (0, 1, 1)), (1, [0, 1]), (1, None), (1, "01"), (1, {0: 0, 1: 1}),
        (1, (0, 0)), (1, (1, 1)), (1, (0, 2)), (1, (2, 0)), (1, (0, 3)), (1, (0, -1)), (1, (-1, 0)), (1, (-1, -2)),
        (1, (True, 0)), (1, (0, True)), (1, (False, 1)), (1, (None, 0)), (1, (0, None)), (1, ("0", 1)), (1, (0, "new")),
        (1, (0, [])), (1, ([1], 0)), (1, (0, (1,))), (1, (0, 10 ** 70)), (4, (0, 1, 2)), (4, (0, 1)), (4, (0, 1, 0)),
    ]],
    "the first case": [with_cases([case, None, None]) for case in [(1, (0, 2)), (1, (2, 1)), (4, (0, 1, 2)), (1, (0, 0)), 0]],
    "the last case": [with_last(case) for case in [
        True, 0, "", [], (), (0,), (0, (), ()), [0, ()], (-1, ()), (5, ()), (True, (0, 1)), (False, ()), (None, ()),
        (1, (0,)), (1, (0, 1, 2)), (1, [0, 1]), (1, (0, 0)), (1, (2, 2)), (1, (0, 3)), (1, (3, 0)), (1, (-1, 0)), (1, (True, 0)),
        (1, (0, None)), (1, (0, "new")), (4, (0, 1, 3)), (4, (0, 1)), (4, (2, 1, 2)), (4, (0, 1, 2, 2)), (0, (0,)), (0, (2,)),
    ]],
    "the case of the first room": [with_first(steps=[[case]]) for case in [(1, ()), (0, (0,)), (-1, ()), (0, []), 0, True, ()]],
    "the second sign": [
        (["a", "b"], [(0, True, [[None], [case]]), (1, True, [[None] * 2, [None] * 2])]) for case in [
            (1, ()), (1, (1,)), (2, ()), (0, (0,)), (1, (True,)), 0,
        ]
    ],
}

ODD = [
    plain
    for thing in [Pliant(), Stubborn()]
    for plain in [
        thing, (thing, thing), with_signs(thing), with_signs([thing]), with_signs(["a", thing], 2), with_rooms(thing),
        with_rooms([thing]), with_first(keepers=thing), with_first(good=thing), with_first(steps=thing),
        with_first(steps=[thing]), with_first(steps=[[thing]]), with_held(thing), with_held((thing, ())), with_held((1, thing)),
        with_held((1, (thing, 0))), with_last((1, (0, thing))),
    ]
]


class IsPlainTest(unittest.TestCase):
    def test_plain_machines(self):
        for number, plain in enumerate(PLAINS):
            with self.subTest(number=number):
                self.assertIs(is_plain(plain), True)

    def test_of_anything(self):
        for number, thing in enumerate(ANYTHING):
            with self.subTest(number=number):
                self.assertIs(is_plain(thing), False)

    def test_spoiled_ones(self):
        for part, things in SPOILED.items():
            for number, thing in enumerate(things):
                with self.subTest(part=part, number=number):
                    self.assertIs(is_plain(thing), False)

    def test_things_that_are_compared_oddly(self):
        for number, thing in enumerate(ODD):
            with self.subTest(number=number):
                self.assertIs(is_plain(thing), False)

    def test_a_machine_with_steps_is_no_plain_one(self):
        self.assertIs(is_plain((["a"], [(0, True, [("a", "any", 0, ())])])), False)
        self.assertIs(is_plain((["a"], [(0, True, [])])), False)

    def test_lists_that_hold_themselves(self):
        round_list = []
        round_list.append(round_list)
        for thing in [round_list, (round_list, round_list), with_signs(round_list), with_rooms(round_list),
                      with_first(steps=round_list), with_first(steps=[round_list]), with_held((1, (round_list, 0)))]:
            self.assertIs(is_plain(thing), False)

    def test_what_is_asked_again_is_judged_anew(self):
        plain = ordinary()
        self.assertTrue(is_plain(plain))
        plain[1][1][2][0].append(None)
        self.assertFalse(is_plain(plain))
        plain[1][1][2][0].pop()
        self.assertTrue(is_plain(plain))


class IsSmallTest(unittest.TestCase):
    def test_which_ones_are_small(self):
        for plain, told in [
            (ordinary(), True), (chain(1, 0), True), (chain(12, 3), True), (chain(12, 0), True), (chain(13, 3), False),
            (chain(13, 0), False), (chain(200, 0), False), (chain(200, 6), False), (chain(5, 4), False), (chain(12, 4), False),
            (chain(7, 6), False),
        ]:
            self.assertTrue(is_plain(plain))
            self.assertIs(is_small(plain), told)

    def test_one_room_of_four_keepers_in_each_place(self):
        for place in range(1, 12):
            for keepers, told in [(3, True), (4, False), (6, False)]:
                rooms = [(0, True, [[None]]) for number in range(12)]
                rooms[place] = (keepers, True, [[None] * (keepers + 1)])
                self.assertTrue(is_plain(with_rooms(rooms)))
                self.assertIs(is_small(with_rooms(rooms)), told)


class ReadByTest(unittest.TestCase):
    def test_each_kind_of_case(self):
        for standing, sign, name, told in [
            ((0, ()), "a", 5, (1, (5,))),
            ((0, ()), "b", 5, None),
            ((1, (5,)), "a", 5, None),
            ((1, (5,)), "a", 6, (2, (6, 5))),
            ((1, (5,)), "b", 5, (3, ())),
            ((1, (5,)), "b", 6, (1, (6,))),
            ((2, (5, 6)), "a", 5, (2, (6, 5))),
            ((2, (5, 6)), "a", 6, (1, (5,))),
            ((2, (5, 6)), "a", 7, (2, (7, 5))),
            ((2, (5, 6)), "b", 5, None),
            ((2, (5, 6)), "b", 6, (3, ())),
            ((2, (5, 6)), "b", 7, (1, (7,))),
            ((2, (0, -1)), "a", 0, (2, (-1, 0))),
            ((2, (0, -1)), "a", 1, (2, (1, 0))),
            ((2, (1, 0)), "a", 0, (1, (1,))),
            ((1, (10 ** 60 - 1,)), "a", 1 - 10 ** 60, (2, (1 - 10 ** 60, 10 ** 60 - 1))),
            ((3, ()), "a", 5, None),
            ((3, ()), "b", 5, (3, ())),
        ]:
            with self.subTest(standing=standing, sign=sign, name=name):
                self.assertEqual(read_by(ordinary(), standing, sign, name), told)

    def test_from_nowhere(self):
        for sign in ["a", "b", "c"]:
            self.assertIsNone(read_by(ordinary(), None, sign, 5))

    def test_a_sign_that_it_has_not(self):
        for sign in ["c", "ab", "aa", "z"]:
            for standing in [(0, ()), (1, (5,)), (2, (5, 6)), (3, ()), None]:
                self.assertIsNone(read_by(ordinary(), standing, sign, 5))

    def test_six_keepers(self):
        fills = (6, 5, 4, 3, 2, 1)
        plain = with_rooms([(0, True, [[None]]), (6, False, [[(1, (number, *[other for other in range(6) if other != number]))
                                                             for number in range(6)] + [(1, fills)]])])
        self.assertTrue(is_plain(plain))
        names = (10, 11, 12, 13, 14, 15)
        for number in range(6):
            told = (names[number], *[name for name in names if name != names[number]])
            self.assertEqual(read_by(plain, (1, names), "a", names[number]), (1, told))
        self.assertEqual(read_by(plain, (1, names), "a", 16), (1, (16, 15, 14, 13, 12, 11)))

    def test_its_kinds(self):
        told = read_by(ordinary(), (1, (5,)), "a", 6)
        self.assertEqual([type(told), type(told[0]), type(told[1])], [tuple, int, tuple])


class RowsTest(unittest.TestCase):
    def test_rows(self):
        for row, told in [
            ([], (0, ())),
            ([("a", 5)], (1, (5,))),
            ([("b", 5)], None),
            ([("a", 5), ("b", 5)], (3, ())),
            ([("a", 5), ("b", 6)], (1, (6,))),
            ([("a", 5), ("a", 5)], None),
            ([("a", 5), ("a", 6)], (2, (6, 5))),
            ([("a", 5), ("a", 6), ("a", 6)], (2, (5, 6))),
            ([("a", 5), ("a", 6), ("a", 5)], (1, (6,))),
            ([("a", 5), ("a", 6), ("a", 7)], (2, (7, 6))),
            ([("a", 5), ("a", 6), ("b", 6)], None),
            ([("a", 5), ("a", 6), ("b", 5), ("b", 9)], (3, ())),
            ([("b", 5), ("a", 5)], None),
            ([("c", 5)], None),
            ([("a", 5), ("c", 5)], None),
            ([("a", 5), ("c", 5), ("b", 5)], None),
            ([("a", 5), ("b", 5), ("c", 5)], None),
        ]:
            with self.subTest(row=row):
                self.assertEqual(stands_behind(ordinary(), row), told)
                self.assertIs(plain_lets(ordinary(), row), told is not None and told[0] in (2, 3))

    def test_the_row_without_signs(self):
        self.assertIs(plain_lets(with_first(good=True), []), True)
        self.assertIs(plain_lets(with_first(good=False), []), False)
        self.assertEqual(stands_behind(chain(200, 6), []), (0, ()))

    def test_a_good_room_on_the_way_is_not_enough(self):
        plain = (["a"], [(0, True, [[(1, ())]]), (0, False, [[(2, ())]]), (0, True, [[None]])])
        self.assertEqual([plain_lets(plain, [("a", 5)] * many) for many in range(4)], [True, False, True, False])

    def test_long_rows(self):
        plain = chain(200, 6)
        self.assertEqual(stands_behind(plain, [("a", number) for number in range(60)]), (60, (0, 1, 2, 3, 4, 5)))
        self.assertIs(plain_lets(plain, [("b", number) for number in range(60)]), True)
        self.assertEqual(stands_behind(plain, [("c", number) for number in range(250)])[0], 199)

    def test_all_sorts(self):
        let = 0
        for plain in some_plains(150):
            for row in some_rows(25, 8, 5):
                standing = (0, ())
                for sign, name in row:
                    standing = read_slowly(plain, standing, sign, name)
                self.assertEqual(stands_behind(plain, row), standing)
                told = standing is not None and plain[1][standing[0]][1]
                self.assertIs(plain_lets(plain, row), told)
                let += told
        self.assertGreater(let, 300)

    def test_names_exchanged_one_for_one(self):
        for plain in some_plains(60):
            for row in some_rows(15, 6, 3):
                told = plain_lets(plain, row)
                self.assertIs(plain_lets(plain, shape_of(row)), told)
                for pairs in [[(0, 5), (5, 0)], [(0, -1), (-1, 5), (5, 0)], [(0, 10 ** 60 - 1), (-1, 0), (5, -(10 ** 59))]]:
                    self.assertIs(plain_lets(plain, exchanged(row, pairs)), told)


class OwnTest(unittest.TestCase):
    def ask_all(self, plain, row):
        return (is_plain(plain), is_small(plain), read_by(plain, (1, (5,)), "a", 6), stands_behind(plain, row),
                plain_lets(plain, row))

    def test_what_is_handed_in_stays_as_it_was(self):
        for row in [[("a", 5), ("a", 6)], [("a", 5), ("b", 5), ("c", 5)], []]:
            plain = ordinary()
            kept = copy.deepcopy(row)
            before = self.ask_all(plain, row)
            self.assertEqual((plain, row), (ordinary(), kept))
            self.assertEqual(self.ask_all(plain, row), before)

    def test_what_is_done_afterwards_changes_nothing_but_what_is_asked_anew(self):
        plain, row = ordinary(), [("a", 5), ("a", 6)]
        told = stands_behind(plain, row)
        plain[1][1][2][0][1] = None
        row.pop()
        self.assertEqual(told, (2, (6, 5)))
        self.assertIsNone(stands_behind(plain, [("a", 5), ("a", 6)]))


if __name__ == "__main__":
    unittest.main()
