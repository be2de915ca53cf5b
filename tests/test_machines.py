"""What is a machine, and machines copied [2, 3, 8]."""

import copy
import unittest

from freshrooms.errors import NoMachine, RoomError
from freshrooms.machines import copied_machine, is_machine
from tests.samples import ANYTHING, Pliant, Stubborn


def ordinary():
    return (["a", "b"], [
        (1, False, [("a", "fresh", 1, ("new", None)), ("b", 0, 0, (0,))]),
        (2, True, [("b", 1, 0, (1,)), ("a", "any", 1, (0, "new")), ("a", 0, 2, ())]),
        (0, False, [("b", "fresh", 1, ("new", "new")), ("b", "any", 2, ())]),
    ])


def with_signs(signs):
    return (signs, [(0, True, [])])


def with_rooms(rooms):
    return (["a", "b"], rooms)


def with_keepers(keepers):
    return with_rooms([(keepers, True, [])])


def with_good(good):
    return with_rooms([(0, good, [])])


def with_steps(steps):
    """Three rooms of 2, 0 and 3 keepers; the steps stand in the first one."""
    return with_rooms([(2, False, steps), (0, True, []), (3, False, [])])


def with_step(sign="a", asks="fresh", to=1, fills=()):
    return with_steps([(sign, asks, to, fills)])


def step_count(*counts):
    return with_rooms([(0, True, [("a", "any", 0, ())] * count) for count in counts])


GREATEST = (["aaaaaaaa", "bbbbbbbb", "zzzzzzzz"], [
    (3, room % 2 == 0, [("aaaaaaaa", asks, 11 - room, (2, "new", None)) for asks in [0, 1, 2, "fresh", "any"] * 2])
    for room in range(12)
])

MACHINES = [
    ordinary(),
    GREATEST,
    with_signs(["a"]), with_signs(["a", "b", "c"]), with_signs(["a", "aa", "b"]), with_signs(["any", "fresh", "new"]),
    with_keepers(0), with_keepers(1), with_keepers(2), with_keepers(3),
    with_good(True), with_good(False),
    with_rooms([(0, True, [])] * 12),
    step_count(120), step_count(60, 60), step_count(*[10] * 12), step_count(119, 0, 1),
    with_steps([]), with_steps([("a", "any", 1, ())] * 2),
    with_step(sign="b"),
    with_step(asks="fresh"), with_step(asks="any"), with_step(asks=0), with_step(asks=1),
    with_step(to=0, fills=(0, 1)), with_step(to=0, fills=(1, 1)), with_step(to=0, fills=("new", "new")),
    with_step(to=0, fills=(None, None)), with_step(to=2, fills=(0, "new", None)), with_step(asks=0, to=2, fills=(1,) * 3),
]

SPOILED = {
    "the whole": [
        list(ordinary()), ordinary()[:1], ordinary() + ([],), (ordinary()[1], ordinary()[0]), [ordinary()], (ordinary(),),
    ],
    "signs": [with_signs(signs) for signs in [
        [], ["a", "b", "c", "d"], ["b", "a"], ["a", "c", "b"], ["a", "a"], ["a", "b", "b"], ("a", "b"), "ab", "a", {"a": 1},
        None, True, 1, [""], ["abcdefghi"], ["A"], ["a1"], ["a b"], ["a", "b "], ["a\n"], ["-"], [1], [None], [True],
        ["a", 1], [1, "a"], ["a", None], ["a", ["b"]], [["a"]], [("a",)], [b"a"], ["a", "b", "c" * 9],
    ]],
    "rooms": [with_rooms(rooms) for rooms in [
        [], [(0, True, [])] * 13, ((0, True, []),), None, True, 1, "room", {0: (0, True, [])}, (0, True, []),
        [None], [True], [1], ["abc"], [[]], [[0, True, []]], [{}], [()], [(0,)], [(0, True)], [(0, True, [], [])],
        [(0, True, []), None], [(0, True, []), [0, True, []]], [(0, True, []), (0, True)], [(True, 0, [])], [([], True, 0)],
    ]],
    "keepers": [with_keepers(keepers) for keepers in [
        -1, 4, 10 ** 70, -(10 ** 70), True, False, None, "0", "1", [], [0], (), (0,), {},
    ]],
    "good": [with_good(good) for good in [0, 1, 2, None, "True", "good", "", [], [True], (), (True,), {}]],
    "steps": [with_steps(steps) for steps in [
        (), None, True, 0, "", "a", {}, (("a", "any", 1, ()),), [None], [True], [1], ["abcd"], [[]], [{}], [()],
        [["a", "any", 1, ()]], [("a", "any", 1)], [("a", "any", 1, (), ())], [("a",)], [("a", "any", 1, ()), None],
        [("a", "any", 1, ()), ("a", "any", 1)],
    ]],
    "step count": [step_count(121), step_count(60, 61), step_count(*[10] * 11, 11), step_count(2000)],
    "sign": [with_step(sign=sign) for sign in [
        "c", "", "A", "ab", "a ", "abcdefghi", None, True, 0, ["a"], ("a",), {}, b"a",
    ]],
    "asks": [with_step(asks=asks) for asks in [
        -1, 2, 3, 10 ** 70, True, False, None, "", "0", "1", "new", "none", "Fresh", "fresh ", "all", "f", [], [0], ["any"],
        (), (0,), ("any",), {}, b"any",
    ]],
    "to": [with_step(to=to) for to in [
        -1, -2, 3, 12, 10 ** 70, -(10 ** 70), True, False, None, "1", "", [], [1], (), (1,), {},
    ]],
    "fills' form": [with_step(to=0, fills=fills) for fills in [
        (), (0,), (0, 1, 1), [0, 1], None, True, 0, "ab", "new", {}, {0: 1, 1: 0}, [], ("new",), (None,), (None,) * 3,
    ]],
    "fills": [with_step(to=0, fills=(1, fill)) for fill in [
        -1, 2, 3, 10 ** 70, True, False, "", "0", "none", "None", "fresh", "any", "New", "new ", [], [0], (), (0,), {}, b"new",
    ]],
    "fills of a room without keepers": [with_step(to=1, fills=fills) for fills in [(None,), (0,), [], None, "", 0, {}]],
    "asks in a room without keepers": [with_rooms([(0, True, [("a", asks, 0, ())])]) for asks in [0, -1, 1]],
    "fills in a room without keepers": [
        with_rooms([(0, True, [("a", "any", 1, (fill,))]), (1, True, [])]) for fill in [0, 1, -1]
    ],
    "a later room": [
        with_rooms([(0, True, []), (1, False, [("a", asks, to, fills)])])
        for asks, to, fills in [(1, 0, ()), ("any", 2, ()), ("any", 1, (1,)), ("any", 1, ()), ("any", 0, (0,))]
    ],
}


ODD = [
    machine
    for thing in [Pliant(), Stubborn()]
    for machine in [
        thing, (thing, thing), with_signs(thing), with_signs([thing]), with_signs(["a", thing]), with_rooms(thing),
        with_rooms([thing]), with_keepers(thing), with_good(thing), with_steps(thing), with_steps([thing]),
        with_step(sign=thing), with_step(asks=thing), with_step(to=thing), with_step(fills=thing),
        with_step(to=0, fills=(thing, 0)), with_step(to=0, fills=(0, thing)),
    ]
]


def lists_of(machine):
    """Every list within the machine."""
    return [machine[0], machine[1]] + [room[2] for room in machine[1]]


class IsMachineTest(unittest.TestCase):
    def test_machines(self):
        for machine in MACHINES:
            with self.subTest(machine=machine):
                self.assertIs(is_machine(machine), True)

    def test_of_anything(self):
        for number, thing in enumerate(ANYTHING):
            with self.subTest(number=number):
                self.assertIs(is_machine(thing), False)

    def test_spoiled_ones(self):
        for part, things in SPOILED.items():
            for number, thing in enumerate(things):
                with self.subTest(part=part, number=number):
                    self.assertIs(is_machine(thing), False)

    def test_things_that_are_compared_oddly(self):
        for number, thing in enumerate(ODD):
            with self.subTest(number=number):
                self.assertIs(is_machine(thing), False)

    def test_lists_that_hold_themselves(self):
        round_list = []
        round_list.append(round_list)
        for thing in [round_list, (round_list, round_list), with_signs(round_list), with_rooms(round_list),
                      with_steps(round_list), with_step(sign=round_list), with_step(fills=(round_list,))]:
            self.assertIs(is_machine(thing), False)

    def test_what_is_handed_in_stays_as_it_was(self):
        for machine in MACHINES:
            kept = copy.deepcopy(machine)
            is_machine(machine)
            self.assertEqual(machine, kept)

    def test_what_is_asked_again_is_judged_anew(self):
        machine = ordinary()
        self.assertTrue(is_machine(machine))
        machine[0].append("a")
        self.assertFalse(is_machine(machine))
        machine[0].pop()
        self.assertTrue(is_machine(machine))


class CopiedMachineTest(unittest.TestCase):
    def test_a_copy_is_equal(self):
        for machine in MACHINES:
            kept = copy.deepcopy(machine)
            told = copied_machine(machine)
            self.assertEqual(told, kept)
            self.assertEqual(machine, kept)
            self.assertTrue(is_machine(told))

    def test_a_copy_is_another_one_in_all_its_lists(self):
        for machine in MACHINES:
            handed = [id(held) for held in lists_of(machine)]
            told = [id(held) for held in lists_of(copied_machine(machine))]
            self.assertEqual(set(handed) & set(told), set())
            self.assertEqual(len(set(told)), len(told))

    def test_one_list_in_two_rooms_becomes_two(self):
        steps = [("a", "any", 0, ())]
        told = copied_machine((["a"], [(0, True, steps), (0, False, steps)]))
        told[1][0][2].append(("a", "fresh", 1, ()))
        self.assertEqual(told[1][1], (0, False, [("a", "any", 0, ())]))
        self.assertEqual(steps, [("a", "any", 0, ())])

    def test_changes_of_the_copy_and_of_what_was_copied(self):
        machine = ordinary()
        told = copied_machine(machine)
        for held in lists_of(told):
            held.clear()
        self.assertEqual(machine, ordinary())
        told = copied_machine(machine)
        for held in lists_of(machine):
            held.clear()
        self.assertEqual(told, ordinary())

    def test_what_was_told_may_be_changed(self):
        machine = ordinary()
        copied_machine(machine)[1].clear()
        copied_machine(machine)[1][0][2].clear()
        self.assertEqual(copied_machine(machine), ordinary())

    def test_the_kinds_of_a_copy(self):
        told = copied_machine(ordinary())
        self.assertEqual([type(part) for part in told], [list, list])
        for room in told[1]:
            self.assertEqual([type(room)] + [type(part) for part in room], [tuple, int, bool, list])
            for step in room[2]:
                self.assertEqual([type(step), type(step[3])], [tuple, tuple])

    def test_what_is_none_is_refused(self):
        things = ANYTHING + ODD + [thing for spoiled in SPOILED.values() for thing in spoiled]
        for number, thing in enumerate(things):
            with self.subTest(number=number):
                with self.assertRaises(NoMachine) as caught:
                    copied_machine(thing)
                self.assertIsInstance(caught.exception, RoomError)


if __name__ == "__main__":
    unittest.main()
