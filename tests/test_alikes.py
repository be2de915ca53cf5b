"""Keepers that matter [2, 3, 20]."""

import copy
import random
import unittest

from freshrooms.alikes import matters
from freshrooms.compares import compared
from freshrooms.errors import TooGreat
from freshrooms.plains import is_plain
from tests.oracles import parted_slowly
from tests.samples import AtOnce, check_refused, doubled, great_plain, lists_within, shuffled, some_plains, with_rooms


def parted_at(room, own, keeper):
    return (room, room, tuple((other, other) for other in range(own) if other != keeper))


def matters_slowly(plain):
    parted = parted_slowly(plain, plain)
    return [
        [keeper for keeper in range(room[0]) if parted_at(number, room[0], keeper) in parted]
        for number, room in enumerate(plain[1])
    ]


GOOD = (0, True, [[None]])
STUCK = (0, False, [[None]])

# Machines with one sign; from room 1 on the rooms that are looked at.
MACHINES = {
    "no keepers": ([(0, True, [[(0, ())]])], [[]]),
    "at once": (
        [STUCK, (1, False, [[(2, ()), None]]), GOOD],
        [[], [0], []],
    ),
    "at once, where the name none holds is told apart": (
        [STUCK, (1, False, [[None, (2, ())]]), GOOD],
        [[], [0], []],
    ),
    "never, as all names lead to one room": (
        [STUCK, (2, True, [[(2, ()), (2, ()), (2, ())]]), GOOD],
        [[], [], []],
    ),
    "never, as no good room is behind": (
        [STUCK, (2, False, [[(1, (1, 0)), None, (0, ())]])],
        [[], []],
    ),
    "never, as all rooms are good and none leads nowhere": (
        [(0, True, [[(1, (0,))]]), (1, True, [[(0, ()), (2, (0, 1))]]), (2, True, [[(1, (0,)), (0, ()), (2, (2, 0))]])],
        [[], [], []],
    ),
    "one of two": (
        [STUCK, (2, False, [[None, (2, ()), None]]), GOOD],
        [[], [1], []],
    ),
    "the two, as two names alone lead on": (
        [STUCK, (3, False, [[(2, ()), None, (2, ()), None]]), GOOD],
        [[], [0, 2], []],
    ),
    "the last of three, and where it is left": (
        [STUCK, (3, False, [[None, None, (2, (2, 0)), None]]), (2, False, [[None, (3, ()), None]]), GOOD],
        [[], [0, 2], [1], []],
    ),
    "some steps on alone": (
        [
            STUCK, (1, False, [[(2, (0,)), (2, (0,))]]), (1, True, [[(3, (0,)), (3, (0,))]]),
            (1, False, [[(4, (0,)), (4, (0,))]]), (1, False, [[(5, ()), None]]), GOOD,
        ],
        [[], [0], [0], [0], [0], []],
    ),
    "only by another keeper, into whose place it comes": (
        [
            STUCK, (3, False, [[(2, (1, 2, 0))] * 4]), (3, False, [[(3, (1,))] * 4]), (1, False, [[(4, ()), None]]), GOOD,
        ],
        [[], [2], [1], [0], []],
    ),
    "only by another keeper, whose name leads to a room that asks": (
        [
            STUCK, (2, False, [[(2, (1,)), (3, ()), (3, ())]]), (1, False, [[(4, ()), None]]),
            (0, False, [[None]]), GOOD,
        ],
        [[], [0, 1], [0], [], []],
    ),
    "both names lead on alike, so it is the two that matter": (
        [STUCK, (2, False, [[(2, (1,)), (2, (0,)), None]]), (1, True, [[None, None]])],
        [[], [0, 1], []],
    ),
    "left at once, though the room behind asks": (
        [STUCK, (1, False, [[(2, (0,)), (2, (1,))]]), (1, False, [[(3, ()), None]]), GOOD],
        [[], [], [0], []],
    ),
    "where the name read is kept, not the one that was": (
        [STUCK, (2, False, [[(1, (0, 1)), (1, (1, 0)), (1, (2, 0))]]), GOOD],
        [[], [], []],
    ),
    "in a ring": (
        [
            STUCK, (3, False, [[(1, (1, 2, 0)), (1, (1, 2, 0)), (1, (1, 2, 0)), (2, (0,))]]), (1, False, [[(3, ()), None]]), GOOD,
        ],
        [[], [0, 1, 2], [0], []],
    ),
}


class MattersTest(unittest.TestCase):
    def test_machines(self):
        for told, (rooms, keepers) in MACHINES.items():
            with self.subTest(told=told):
                plain = (["a"], rooms)
                self.assertTrue(is_plain(plain))
                self.assertEqual(matters_slowly(plain), keepers)
                self.assertEqual(matters(plain), keepers)

    def test_rooms_to_which_no_row_leads_are_judged_too(self):
        plain = (["a"], [(0, True, [[None]]), (1, False, [[(0, ()), None]]), (1, False, [[None, None]])])
        self.assertEqual(matters(plain), [[], [0], []])

    def test_the_second_sign(self):
        plain = (["a", "b"], [(0, True, [[None], [None]]), (2, False, [[(0, ())] * 3, [(0, ()), (0, ()), None]])])
        self.assertEqual(matters(plain), [[], [0, 1]])

    def test_a_long_way_on(self):
        """Ten rooms on a name is asked for; the keepers go round meanwhile."""
        rooms = [(0, False, [[None]])]
        for number in range(1, 10):
            rooms.append((3, True, [[(number + 1, (2, 0, 1))] * 4]))
        rooms += [(3, True, [[(11, ()), None, None, None]]), (0, True, [[None]])]
        self.assertEqual(matters((["a"], rooms)), [[]] + [[(number - 1) % 3] for number in range(1, 11)] + [[]])

    def test_all_sorts(self):
        many = [0, 0]
        for plain in some_plains(120):
            if len(plain[1]) <= 4:
                told = matters(plain)
                self.assertEqual(told, matters_slowly(plain))
                held = sum(room[0] for room in plain[1])
                many[0] += held - sum(map(len, told))
                many[1] += sum(map(len, told))
        self.assertGreater(min(many), 20)

    def test_as_the_comparing_tells(self):
        for plain in some_plains(60):
            told = matters(plain)
            for number, room in enumerate(plain[1]):
                self.assertEqual(told[number], [
                    keeper for keeper in range(room[0])
                    if compared(plain, plain, parted_at(number, room[0], keeper))[0] == "apart"
                ])

    def test_rooms_twice_and_in_another_order(self):
        chance = random.Random(1)
        for plain in some_plains(40):
            told = [len(keepers) for keepers in matters(plain)]
            self.assertEqual([len(keepers) for keepers in matters(doubled(plain, chance))], told + told)
            other = shuffled(plain, chance)
            self.assertEqual(sorted(len(keepers) for keepers in matters(other)), sorted(told))

    def test_the_greatest(self):
        chance = random.Random(2)
        for good, nowhere in [(1.0, 0.0), (0.5, 0.0), (0.5, 0.1)]:
            plain = great_plain(chance, good=good, nowhere=nowhere)
            with AtOnce(60):
                told = matters(plain)
            self.assertEqual(len(told), 12)
            if good == 1.0:
                self.assertEqual(told, [[]] * 12)

    def test_its_kinds(self):
        told = matters((["a"], MACHINES["the two, as two names alone lead on"][0]))
        self.assertEqual([type(told), type(told[0]), type(told[1]), type(told[1][0])], [list, list, list, int])


class RefusedTest(unittest.TestCase):
    def test_machines_that_are_not_small(self):
        for rooms, keepers, small in [
            (12, 3, True), (1, 3, True), (13, 0, False), (13, 3, False), (2, 4, False), (12, 4, False), (200, 6, False),
        ]:
            plain = with_rooms(rooms, keepers)
            self.assertTrue(is_plain(plain))
            if small:
                self.assertEqual(matters(plain), [[]] * rooms)
            else:
                check_refused(self, TooGreat, matters, plain)


class OwnTest(unittest.TestCase):
    def test_what_is_handed_in_stays_as_it_was(self):
        machines = some_plains(40)
        kept = copy.deepcopy(machines)
        for plain in machines:
            matters(plain)
        self.assertEqual(machines, kept)

    def test_what_was_told_may_be_changed(self):
        for rooms, keepers in MACHINES.values():
            plain = (["a"], rooms)
            told, again = matters(plain), matters(plain)
            lists = lists_within(told) + lists_within(again) + lists_within(plain)
            self.assertEqual(len({id(one) for one in lists}), len(lists_within(told)) * 2 + len({id(one) for one in lists_within(plain)}))
            for one in lists_within(told):
                one.append("changed")
            self.assertEqual(matters(plain), keepers)


if __name__ == "__main__":
    unittest.main()
