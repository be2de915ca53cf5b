"""Standings, ways along a row, and rows let by [2, 3, 4, 10, 11, 12]."""

import copy
import itertools
import unittest

from freshrooms.errors import NoWay
from freshrooms.going import behind, first_standing, fitting, lets_by, walked, way_by
from freshrooms.machines import is_machine
from freshrooms.rows import exchanged, shape_of
from tests.samples import AtOnce, check_refused, some_machines, some_rows


def ordinary():
    """Lets by rows that end in a b with a name that an a had, unless it was forgotten on every way."""
    return (["a", "b"], [
        (0, False, [("a", "any", 0, ()), ("a", "fresh", 1, ("new", None)), ("b", "any", 0, ())]),
        (2, False, [
            ("a", "fresh", 1, (0, "new")), ("b", 0, 2, ()), ("b", 1, 2, ()), ("b", "fresh", 1, (1, 0)), ("a", 0, 1, (1, None)),
        ]),
        (0, True, []),
    ])


def single_room(keepers, good, *steps):
    return (["a", "b"], [(keepers, good, list(steps))])


# Each room leads to each one by steps that shift what is held: the ways along a row are past counting.
MANY_WAYS = (["a"], [
    (3, False, [("a", "any", (room + step) % 4, (("new", 0, 1), (1, "new", 0), (2, 1, "new"))[step % 3]) for step in range(10)])
    for room in range(4)
])

NEVER_GOOD = (["a"], [(3, False, [
    ("a", "any", 0, fills) for fills in list(itertools.product([0, 1, 2, "new", None], repeat=3))[:120]
])])


def good_behind(machine):
    """The same machine with one more room, good, which the keeper 2 of room 0 leads to."""
    room = machine[1][0]
    return (machine[0], [(room[0], room[1], room[2][:-1] + [("a", 2, len(machine[1]), ())])] + machine[1][1:] + [(0, True, [])])


def all_ways(machine, row):
    """Every way along the row with its standing, one by one, told apart from the program."""
    ways = [([], 0, tuple(None for number in range(machine[1][0][0])))]
    for sign, name in row:
        ways = [
            (way + [number], step[2], tuple(
                None if fill is None else name if fill == "new" else kept[fill] for fill in step[3]
            ))
            for way, room, kept in ways
            for number, step in enumerate(machine[1][room][2])
            if step[0] == sign and (
                step[1] == "any" or step[1] == "fresh" and name not in kept or step[1] not in ("any", "fresh")
                and kept[step[1]] == name
            )
        ]
    return ways


class StandingTest(unittest.TestCase):
    def test_the_first_one(self):
        for keepers in range(4):
            machine = single_room(keepers, True, ("a", "any", 0, (None,) * keepers))
            self.assertEqual(first_standing(machine), (0, (None,) * keepers))
        self.assertEqual(first_standing(ordinary()), (0, ()))
        self.assertEqual(first_standing((["a"], [(1, True, []), (3, False, [])])), (0, (None,)))

    def test_its_kinds(self):
        told = first_standing(single_room(2, True))
        self.assertEqual([type(told), type(told[0]), type(told[1])], [tuple, int, tuple])


class FittingTest(unittest.TestCase):
    def test_fitting(self):
        for standing, sign, name, told in [
            ((0, ()), "a", 5, [0, 1]),
            ((0, ()), "b", 5, [2]),
            ((0, ()), "c", 5, []),
            ((1, (5, None)), "a", 5, [4]),
            ((1, (5, None)), "a", 6, [0]),
            ((1, (5, None)), "b", 5, [1]),
            ((1, (5, None)), "b", 6, [3]),
            ((1, (5, 6)), "b", 6, [2]),
            ((1, (6, 6)), "b", 6, [1, 2]),
            ((1, (6, 6)), "a", 6, [4]),
            ((1, (None, None)), "b", 0, [3]),
            ((1, (None, None)), "a", 0, [0]),
            ((1, (None, 0)), "a", 0, []),
            ((2, ()), "a", 5, []),
            ((2, ()), "b", 5, []),
            ((1, (5, 6)), "zz", 5, []),
        ]:
            with self.subTest(standing=standing, sign=sign, name=name):
                self.assertEqual(fitting(ordinary(), standing, sign, name), told)

    def test_steps_told_alike_all_fit(self):
        machine = single_room(0, True, *[("a", "any", 0, ())] * 12)
        self.assertEqual(fitting(machine, (0, ()), "a", 1), list(range(12)))
        self.assertEqual(fitting(machine, (0, ()), "b", 1), [])

    def test_what_is_told_is_the_askers_own(self):
        machine = ordinary()
        fitting(machine, (0, ()), "a", 5).append(9)
        self.assertEqual(fitting(machine, (0, ()), "a", 5), [0, 1])
        self.assertEqual(machine, ordinary())


class BehindTest(unittest.TestCase):
    def test_behind_steps_that_fit(self):
        for standing, number, name, told in [
            ((0, ()), 0, 5, (0, ())),
            ((0, ()), 1, 5, (1, (5, None))),
            ((1, (5, None)), 0, 6, (1, (5, 6))),
            ((1, (5, 6)), 1, 5, (2, ())),
            ((1, (5, 6)), 3, 7, (1, (6, 5))),
            ((1, (5, None)), 3, 7, (1, (None, 5))),
            ((1, (5, 6)), 4, 5, (1, (6, None))),
        ]:
            with self.subTest(standing=standing, number=number):
                self.assertEqual(behind(ordinary(), standing, number, name), told)

    def test_behind_steps_that_do_not_fit(self):
        self.assertEqual(behind(ordinary(), (1, (5, 6)), 0, 5), (1, (5, 5)))
        self.assertEqual(behind(ordinary(), (1, (5, 6)), 1, 9), (2, ()))
        self.assertEqual(behind(ordinary(), (1, (None, None)), 4, 9), (1, (None, None)))
        self.assertEqual(behind(ordinary(), (1, (5, 6)), 3, 5), (1, (6, 5)))

    def test_its_kinds(self):
        told = behind(ordinary(), (0, ()), 1, 5)
        self.assertEqual([type(told), type(told[0]), type(told[1])], [tuple, int, tuple])


class WalkedTest(unittest.TestCase):
    def test_ways(self):
        for row, way, told in [
            ([], [], (0, ())),
            ([("a", 5)], [0], (0, ())),
            ([("a", 5)], [1], (1, (5, None))),
            ([("a", 5), ("a", 6)], [1, 0], (1, (5, 6))),
            ([("a", 5), ("a", 6), ("b", 7)], [1, 0, 3], (1, (6, 5))),
            ([("a", 5), ("a", 6), ("b", 5)], [1, 0, 1], (2, ())),
            ([("a", 5), ("a", 6), ("b", 6)], [1, 0, 2], (2, ())),
            ([("a", 5), ("a", 6), ("b", 6)], [0, 1, 1], (2, ())),
            ([("a", 5), ("a", 5), ("b", 8)], [1, 4, 3], (1, (None, None))),
        ]:
            with self.subTest(row=row, way=way):
                self.assertEqual(walked(ordinary(), row, way), told)

    def test_the_row_without_signs(self):
        for keepers in range(4):
            for good in [True, False]:
                self.assertEqual(walked(single_room(keepers, good), [], []), (0, (None,) * keepers))
                check_refused(self, NoWay, walked, single_room(keepers, good), [], [0])

    def test_lists_that_are_no_ways(self):
        for row, ways in [
            ([], [[0], [-1], [1], [0, 0]]),
            ([("a", 5)], [[], [0, 0], [1, 0], [-1], [-3], [2], [3], [99], [10 ** 70], [-(10 ** 70)]]),
            ([("b", 5)], [[], [0], [1], [3], [-1], [2, 2]]),
            ([("a", 5), ("b", 5)], [[1], [1, 1, 0], [1, 0], [1, 2], [1, 3], [1, 4], [1, 5], [1, -1], [1, -4], [0, 1]]),
            ([("a", 5), ("b", 6)], [[1, 1], [1, 2], [1, -2]]),
            ([("a", 5), ("b", 5), ("a", 1)], [[1, 1], [1, 1, 0], [1, 1, -1], [0, 2], [0, 2, 2]]),
            ([("c", 5)], [[], [0], [1], [2], [-1]]),
            ([("a", 5), ("c", 5)], [[0], [0, 0], [0, 1], [1, 0], [0, 2]]),
            ([("zz", 5), ("a", 5)], [[0, 0], [0]]),
        ]:
            for way in ways:
                with self.subTest(row=row, way=way):
                    check_refused(self, NoWay, walked, ordinary(), row, way)

    def test_long_lists(self):
        machine = single_room(0, True, ("a", "any", 0, ()))
        self.assertEqual(walked(machine, [("a", 1)] * 60, [0] * 60), (0, ()))
        for way in [[0] * 59, [0] * 61, [0] * 2000, [0] * 59 + [1], [1] + [0] * 59]:
            check_refused(self, NoWay, walked, machine, [("a", 1)] * 60, way)

    def test_all_lists_of_numbers(self):
        for machine in some_machines(60):
            for row in some_rows(8, 3, 2):
                told = {tuple(way): (room, kept) for way, room, kept in all_ways(machine, row)}
                for many in range(len(row) + 2):
                    for way in itertools.product(range(-1, 4), repeat=many):
                        if way in told:
                            self.assertEqual(walked(machine, row, list(way)), told[way])
                        else:
                            self.assertRaises(NoWay, walked, machine, row, list(way))


class LetsByTest(unittest.TestCase):
    def check_row(self, machine, row, told):
        self.assertIs(lets_by(machine, row), told)
        way = way_by(machine, row)
        if told:
            self.assertIs(type(way), list)
            self.assertIs(machine[1][walked(machine, row, way)[0]][1], True)
        else:
            self.assertIsNone(way)

    def test_rows(self):
        for row, told in [
            ([], False),
            ([("a", 5)], False),
            ([("b", 5)], False),
            ([("a", 5), ("b", 5)], True),
            ([("a", 5), ("b", 6)], False),
            ([("a", 5), ("a", 6), ("b", 5)], True),
            ([("a", 5), ("a", 6), ("b", 6)], True),
            ([("a", 5), ("a", 6), ("b", 7)], False),
            ([("b", 5), ("a", 6), ("b", 5)], False),
            ([("b", 5), ("a", 5), ("b", 5)], True),
            ([("a", 5), ("b", 5), ("b", 5)], False),
            ([("a", 5), ("b", 5), ("a", 5), ("b", 5)], True),
            ([("a", 5), ("b", 6), ("b", 5)], True),
            ([("a", 5), ("c", 5), ("b", 5)], False),
            ([("c", 5)], False),
            ([("a", 5), ("b", 5), ("c", 5)], False),
            ([("a", 10 ** 60 - 1), ("b", 10 ** 60 - 1)], True),
            ([("a", 10 ** 60 - 1), ("b", 1 - 10 ** 60)], False),
        ]:
            with self.subTest(row=row):
                self.check_row(ordinary(), row, told)

    def test_the_row_without_signs(self):
        for keepers in range(4):
            self.check_row(single_room(keepers, True), [], True)
            self.check_row(single_room(keepers, False), [], False)
        self.assertEqual(way_by(single_room(2, True), []), [])

    def test_a_keeper_that_holds_nothing_holds_no_name(self):
        machine = (["a"], [(1, False, [("a", 0, 1, ()), ("a", "fresh", 2, ())]), (0, False, []), (0, True, [])])
        for name in [0, 1, -1]:
            self.check_row(machine, [("a", name)], True)

    def test_two_keepers_with_the_same_name(self):
        machine = (["a"], [
            (0, False, [("a", "fresh", 1, ("new", "new"))]), (2, False, [("a", 1, 2, (0,))]), (1, False, [("a", 0, 3, ())]),
            (0, True, []),
        ])
        self.check_row(machine, [("a", 5), ("a", 5), ("a", 5)], True)
        self.check_row(machine, [("a", 5), ("a", 5), ("a", 6)], False)
        self.check_row(machine, [("a", 5), ("a", 6), ("a", 6)], False)

    def test_a_good_room_on_the_way_is_not_enough(self):
        machine = (["a"], [(0, True, [("a", "any", 1, ())]), (0, False, [("a", "any", 2, ())]), (0, True, [])])
        for many, told in [(0, True), (1, False), (2, True), (3, False)]:
            self.check_row(machine, [("a", 5)] * many, told)

    def test_against_all_ways(self):
        let = 0
        for machine in some_machines(200):
            for row in some_rows(20, 5, 3):
                told = any(machine[1][room][1] for way, room, kept in all_ways(machine, row))
                self.check_row(machine, row, told)
                let += told
        self.assertGreater(let, 300)

    def test_many_ways(self):
        row = [("a", number % 6) for number in range(12)]
        for machine, told in [(MANY_WAYS, False), (good_behind(MANY_WAYS), True), (NEVER_GOOD, False),
                              (good_behind(NEVER_GOOD), True)]:
            self.assertTrue(is_machine(machine))
            with AtOnce(30):
                self.check_row(machine, row[:-1] + [("a", 4)], told)
                self.check_row(machine, row, told)

    def test_long_rows_of_a_machine_told_singly(self):
        machine = (["a"], [(0, False, [("a", "fresh", 1, ("new",))]), (1, True, [("a", 0, 1, (0,))])])
        self.check_row(machine, [("a", 7)] * 60, True)
        self.check_row(machine, [("a", 7)] * 59 + [("a", 8)], False)
        self.check_row(machine, [("a", 7)] * 61, True)

    def test_names_exchanged_one_for_one(self):
        for machine in some_machines(60):
            for row in some_rows(15, 5, 3):
                told = lets_by(machine, row)
                self.check_row(machine, shape_of(row), told)
                for pairs in [[(0, 5), (5, 0)], [(0, -1), (-1, 5), (5, 0)], [(0, 10 ** 60 - 1), (-1, 0), (5, -(10 ** 59))]]:
                    self.check_row(machine, exchanged(row, pairs), told)


class OwnTest(unittest.TestCase):
    def ask_all(self, machine, row, way):
        return (first_standing(machine), fitting(machine, (0, ()), "a", 5), behind(machine, (0, ()), 1, 5),
                walked(machine, row, way), lets_by(machine, row), way_by(machine, row))

    def test_what_is_handed_in_stays_as_it_was(self):
        machine, row, way = ordinary(), [("a", 5), ("a", 6), ("b", 6)], [1, 0, 2]
        kept = copy.deepcopy((machine, row, way))
        self.ask_all(machine, row, way)
        self.assertEqual((machine, row, way), kept)
        self.assertRaises(NoWay, walked, machine, row, [1, 0, 1])
        self.assertEqual((machine, row, way), kept)

    def test_what_was_told_may_be_changed(self):
        machine, row, way = ordinary(), [("a", 5), ("b", 5)], [1, 1]
        before = copy.deepcopy(self.ask_all(machine, row, way))
        told = self.ask_all(machine, row, way)
        told[1].clear()
        told[5].clear()
        way_by(single_room(0, True), []).append(0)
        self.assertEqual(way_by(single_room(0, True), []), [])
        self.assertEqual(self.ask_all(machine, row, way), before)
        self.assertEqual(machine, ordinary())

    def test_what_is_done_afterwards_changes_nothing_but_what_is_asked_anew(self):
        machine, row = ordinary(), [("a", 5), ("b", 5)]
        way = way_by(machine, row)
        machine[1][1][2].clear()
        row.pop()
        self.assertEqual(way, [1, 1])
        self.assertIsNone(way_by(machine, [("a", 5), ("b", 5)]))


if __name__ == "__main__":
    unittest.main()
