"""Machines told singly, their plain forms, and plain machines told as machines [2, 3, 4, 15, 16]."""

import copy
import itertools
import unittest

from freshrooms.errors import NotSingle, TooGreat
from freshrooms.forming import is_single, machine_of, plain_of
from freshrooms.going import lets_by
from freshrooms.machines import is_machine
from freshrooms.machtexts import read_machine
from freshrooms.plains import is_plain, plain_lets
from freshrooms.rows import exchanged
from tests.oracles import is_single_slowly, let_slowly, plain_slowly, rows_of
from tests.samples import AtOnce, check_refused, lists_within, some_machines, some_plains, some_rows, some_singles


def of_lines(*lines):
    return read_machine("\n".join(lines))


# Each with the names of what it holds that is told of it.
SINGLE = {
    "no step": of_lines("signs a", "room 0 good"),
    "any alone": of_lines("signs a b", "room 2", "a any 1 new new new", "b any 0 none none", "room 3 good", "b any 0 2 1"),
    "fresh alone": of_lines("signs a", "room 0", "a fresh 1 new", "room 1 good", "a fresh 1 new"),
    "a keeper": of_lines("signs a b", "room 0", "a fresh 1 new", "room 1 good", "b 0 1 0"),
    "fresh beside a keeper": of_lines("signs a", "room 0", "a fresh 1 new", "room 1", "a 0 0", "a fresh 1 0"),
    "several keepers": of_lines(
        "signs a", "room 0", "a any 1 new none none", "room 3", "a fresh 2 0 new none", "a 0 1 0 1 2", "room 3 good",
        "a 0 1 0 none none", "a 1 2 1 0 none", "a 2 0", "a fresh 2 0 1 new",
    ),
    "a keeper that never holds a name": of_lines("signs a", "room 1", "a 0 0 0", "a fresh 0 none", "a 0 0 new"),
    "a keeper that never holds one, beside one that does": of_lines(
        "signs a", "room 2 good", "a 0 0 none 1", "a 0 0 0 0", "a 1 0 none none", "a fresh 0 none new",
    ),
    "two keepers that always hold one name": of_lines(
        "signs a b", "room 0", "a fresh 1 new new", "room 2 good", "a 0 1 0 1", "a fresh 1 new new", "b 1 1 1 0",
    ),
    "steps that both fit where no row leads": of_lines(
        "signs a", "room 0", "a any 1 new none", "room 2 good", "a 0 1 0 none", "a 1 1 0 0", "a fresh 1 0 none",
    ),
    "two steps told alike in a room to which no step leads": of_lines(
        "signs a", "room 0", "a any 0", "room 0 good", "a any 0", "a any 0", "a fresh 1",
    ),
    "a room to which only steps lead that never fit": of_lines(
        "signs a", "room 1", "a 0 1", "a fresh 0 none", "room 0 good", "a any 1", "a any 1",
    ),
    "unlike signs": of_lines("signs a b", "room 0 good", "a any 0", "b any 0"),
    "two keepers hold one name, asked by unlike signs": of_lines(
        "signs a b", "room 0", "a any 1 new new", "room 2", "a 0 1 0 1", "b 1 1 0 1",
    ),
    "two keepers part before they are asked for both": of_lines(
        "signs a", "room 0", "a any 1 new new", "room 2", "a fresh 2 0 new", "room 2 good", "a 0 2 0 1", "a 1 2 1 0",
    ),
}

NOT_SINGLE = {
    "two steps told alike": of_lines("signs a", "room 0", "a any 0", "a any 0"),
    "two fresh ones": of_lines("signs a", "room 0", "a fresh 0", "a fresh 0"),
    "two fresh ones that lead apart": of_lines("signs a", "room 0", "a fresh 0", "a fresh 1", "room 0"),
    "any beside fresh": of_lines("signs a", "room 0", "a any 0", "a fresh 0"),
    "fresh ahead of any": of_lines("signs a", "room 0", "a fresh 0", "a any 0"),
    "any beside a keeper": of_lines("signs a", "room 1", "a any 0 new", "a 0 0 0"),
    "one keeper asked for twice": of_lines("signs a", "room 1", "a fresh 0 new", "a 0 0 0", "a 0 0 none"),
    "two keepers that hold one name asked for both": of_lines(
        "signs a", "room 0", "a fresh 1 new new", "room 2", "a 0 1 0 1", "a 1 1 0 1",
    ),
    "the first and the last of three": of_lines(
        "signs a", "room 3", "a fresh 0 new none new", "a 0 0 0 1 2", "a 2 0 0 1 2",
    ),
    "for the second sign alone": of_lines("signs a b", "room 0 good", "a any 0", "b any 0", "b fresh 0"),
    "in the last room": of_lines(
        "signs a", "room 0", "a any 1", "room 0", "a any 2", "room 0", "a any 3", "room 0", "a any 3", "a any 3",
    ),
    "only some steps on, when both hold one name": of_lines(
        "signs a b", "room 0", "a any 1 new none", "room 2", "a fresh 2 0 new", "room 2", "a 0 2 0 1", "a 1 2 0 1",
        "b 0 2 0 0",
    ),
    "only behind a name that none holds": of_lines(
        "signs a", "room 1", "a fresh 1 new", "room 1", "a 0 1 0", "a fresh 2", "room 0", "a any 2", "a fresh 2",
    ),
    "only behind a name that a keeper holds": of_lines(
        "signs a", "room 1", "a fresh 1 new", "room 1", "a 0 2", "a fresh 1 new", "room 0", "a any 2", "a fresh 2",
    ),
}

# Three keepers that take what is read in turn; every partition of them, with and without None, is come to.
ALL_PLACES = of_lines(
    "signs a b c", "room 3 good", "a any 0 new 0 1", "b any 0 none 0 1", "c any 0 1 2 0",
)


class IsSingleTest(unittest.TestCase):
    def test_machines_that_are(self):
        for told, machine in SINGLE.items():
            with self.subTest(told=told):
                self.assertIs(is_single(machine), True)
                self.assertEqual(len(plain_of(machine)), 2)

    def test_machines_that_are_not(self):
        for told, machine in NOT_SINGLE.items():
            with self.subTest(told=told):
                self.assertIs(is_single(machine), False)
                check_refused(self, NotSingle, plain_of, machine)

    def test_all_sorts(self):
        many = [0, 0]
        for machine in some_machines(400) + some_singles(600):
            told = is_single_slowly(machine)
            many[told] += 1
            self.assertIs(is_single(machine), told)
            if not told:
                check_refused(self, NotSingle, plain_of, machine)
        self.assertGreater(min(many), 200)

    def test_one_step_more(self):
        """Beside each step of a machine that is told singly another one that is told alike, where a row leads or not."""
        parted = 0
        for machine in [*SINGLE.values(), ALL_PLACES]:
            for number, (keepers, good, steps) in enumerate(machine[1]):
                for step in steps:
                    rooms = list(machine[1])
                    rooms[number] = (keepers, good, steps + [step])
                    told = is_single_slowly((machine[0], rooms))
                    parted += not told
                    self.assertIs(is_single((machine[0], rooms)), told)
        self.assertGreater(parted, 20)


class PlainOfTest(unittest.TestCase):
    def test_room_by_room(self):
        for machine, plain, pairs in [
            (SINGLE["no step"], (["a"], [(0, True, [[None]])]), [(0, ())]),
            (
                SINGLE["a keeper"],
                (["a", "b"], [(0, False, [[(1, (0,))], [None]]), (1, True, [[None, None], [(1, (0,)), None]])]),
                [(0, ()), (1, (0,))],
            ),
            (
                SINGLE["fresh beside a keeper"],
                (["a"], [(0, False, [[(1, (0,))]]), (1, False, [[(0, ()), (1, (0,))]])]),
                [(0, ()), (1, (0,))],
            ),
            (
                SINGLE["any alone"],
                (["a", "b"], [
                    (0, False, [[(1, (0,))], [(0, ())]]),
                    (1, True, [[None, None], [(2, (0,)), (2, (0,))]]),
                    (1, False, [[(1, (0,)), (1, (1,))], [(0, ()), (0, ())]]),
                ]),
                [(0, (None, None)), (1, (0, 0, 0)), (0, (0, 0))],
            ),
            (
                SINGLE["a keeper that never holds a name"],
                (["a"], [(0, False, [[(0, ())]])]),
                [(0, (None,))],
            ),
            (
                SINGLE["a keeper that never holds one, beside one that does"],
                (["a"], [(0, True, [[(1, (0,))]]), (1, True, [[(0, ()), (1, (1,))]])]),
                [(0, (None, None)), (0, (None, 0))],
            ),
            (
                SINGLE["two keepers that always hold one name"],
                (["a", "b"], [
                    (0, False, [[(1, (0,))], [None]]),
                    (1, True, [[(1, (0,)), (1, (1,))], [(1, (0,)), None]]),
                ]),
                [(0, ()), (1, (0, 0))],
            ),
            (
                SINGLE["steps that both fit where no row leads"],
                (["a"], [(0, False, [[(1, (0,))]]), (1, True, [[(1, (0,)), (1, (0,))]])]),
                [(0, ()), (1, (0, None))],
            ),
            (
                SINGLE["several keepers"],
                (["a"], [
                    (0, False, [[(1, (0,))]]),
                    (1, False, [[(1, (0,)), (2, (0, 1))]]),
                    (2, True, [[(1, (0,)), (2, (1, 0)), (3, (0, 1, 2))]]),
                    (3, True, [[(1, (0,)), (2, (1, 0)), (0, ()), (3, (0, 1, 3))]]),
                ]),
                [(0, ()), (1, (0, None, None)), (2, (0, 1, None)), (2, (0, 1, 2))],
            ),
        ]:
            with self.subTest(pairs=pairs):
                self.assertEqual(plain_of(machine), (plain, pairs))

    def test_plain_keepers_are_numbered_as_their_names_come_first(self):
        machine = of_lines(
            "signs a b", "room 0", "a any 1 new", "room 1", "a fresh 2 0 new", "b fresh 2 new 0", "room 2",
            "a fresh 3 new 1 0", "b fresh 3 none 1 1", "room 3 good", "a 2 3 2 0 2", "b 1 3 none none 1",
        )
        plain, pairs = plain_of(machine)
        self.assertEqual(pairs, [
            (0, ()), (1, (0,)), (2, (0, 1)), (3, (0, 1, 2)), (3, (None, 0, 0)), (3, (0, 1, 0)), (3, (None, None, 0)),
            (3, (0, None, 0)), (3, (0, 0, 0)),
        ])
        self.assertEqual(plain, (["a", "b"], [
            (0, False, [[(1, (0,))], [None]]),
            (1, False, [[None, (2, (0, 1))], [None, (2, (1, 0))]]),
            (2, False, [[None, None, (3, (2, 1, 0))], [None, None, (4, (1,))]]),
            (3, True, [[None, None, (5, (2, 0)), None], [None, (6, (1,)), None, None]]),
            (1, True, [[(7, (0,)), None], [(6, (0,)), None]]),
            (2, True, [[(8, (0,)), None, None], [None, (6, (1,)), None]]),
            (1, True, [[(7, (0,)), None], [None, None]]),
            (1, True, [[(8, (0,)), None], [None, None]]),
            (1, True, [[(8, (0,)), None], [(6, (0,)), None]]),
        ]))

    def test_rooms_are_numbered_as_they_are_found(self):
        """Breadth first: sign by sign, case by case, whatever the order of rooms and steps."""
        machine = of_lines(
            "signs a b", "room 0", "b fresh 3", "a fresh 4 new", "room 0 good", "room 0 good", "room 0", "a any 5",
            "room 1", "b fresh 2", "b 0 3", "a fresh 1", "a 0 2", "room 0",
        )
        plain, pairs = plain_of(machine)
        self.assertEqual(pairs, [(0, ()), (4, (0,)), (3, ()), (2, ()), (1, ()), (5, ())])
        self.assertEqual(plain, (["a", "b"], [
            (0, False, [[(1, (0,))], [(2, ())]]),
            (1, False, [[(3, ()), (4, ())], [(2, ()), (3, ())]]),
            (0, False, [[(5, ())], [None]]),
            (0, True, [[None], [None]]),
            (0, True, [[None], [None]]),
            (0, False, [[None], [None]]),
        ]))

    def test_all_places_of_three_keepers(self):
        plain, pairs = plain_of(ALL_PLACES)
        told = {places for places in itertools.product([None, 0, 1, 2], repeat=3)
                if [place for place in dict.fromkeys(places) if place is not None] == list(range(len(set(places) - {None})))}
        self.assertEqual(len(told), 15)
        self.assertEqual({places for room, places in pairs}, told)
        self.assertEqual(len(pairs), 15)
        self.assertEqual((plain, pairs), plain_slowly(ALL_PLACES))

    def test_the_most_rooms(self):
        """Twelve rooms with three keepers each, every place of every room come to."""
        rooms = [
            (3, number == 7, [
                ("a", "any", number, ("new", 0, 1)), ("b", "any", number, (None, 0, 1)), ("c", "any", (number + 1) % 12, (1, 2, 0)),
            ])
            for number in range(12)
        ]
        with AtOnce(20):
            plain, pairs = plain_of((["a", "b", "c"], rooms))
        self.assertEqual(len(pairs), 180)
        self.assertTrue(is_plain(plain))
        self.assertEqual((plain, pairs), plain_slowly((["a", "b", "c"], rooms)))

    def test_all_sorts(self):
        twice = nones = 0
        for machine in some_singles(700):
            if is_single_slowly(machine):
                plain, pairs = plain_of(machine)
                self.assertTrue(is_plain(plain))
                self.assertEqual((plain, pairs), plain_slowly(machine))
                twice += any(len(set(places) - {None}) < len(places) - places.count(None) for room, places in pairs)
                nones += any(None in places for room, places in pairs)
        self.assertGreater(min(twice, nones), 15)

    def test_its_kinds(self):
        told = plain_of(SINGLE["several keepers"])
        self.assertEqual([type(told), type(told[0]), type(told[1]), type(told[1][0]), type(told[1][0][1])],
                         [tuple, tuple, list, tuple, tuple])
        self.assertTrue(is_plain(told[0]))

    def test_it_lets_the_same_rows_by(self):
        many = [0, 0]
        exchange = [(0, 10 ** 60 - 1), (-1, 1 - 10 ** 60), (5, -3), (3, 12345678901234567890), (7, 0)]
        for machine in [*SINGLE.values(), ALL_PLACES] + [one for one in some_singles(250) if is_single(one)]:
            plain = plain_of(machine)[0]
            for row in some_rows(25, 12, 5) + rows_of(machine[0], 2):
                told = lets_by(machine, row)
                many[told] += 1
                self.assertIs(plain_lets(plain, row), told)
                self.assertIs(plain_lets(plain, exchanged(row, exchange)), told)
                self.assertIs(lets_by(machine, exchanged(row, exchange)), told)
        self.assertGreater(min(many), 500)

    def test_it_lets_the_same_long_rows_by(self):
        for machine in SINGLE.values():
            plain = plain_of(machine)[0]
            for names in [[7], [1, 2], [10 ** 59, -5, 0], list(range(-30, 30))]:
                for sign in machine[0]:
                    row = [(sign, name) for name in (names * 60)[:60]]
                    self.assertIs(plain_lets(plain, row), lets_by(machine, row))


def with_cases(many):
    """A plain machine of eleven rooms with so many cases that are not None: at most 132."""
    rooms = []
    for number in range(11):
        own = 0 if number == 0 else 3
        steps = []
        for sign in range(3):
            cases = []
            for case in range(own + 1):
                told = many > 0
                cases.append((number if number else 0, tuple(range(own))) if told else None)
                many -= told
            steps.append(cases)
        rooms.append((own, number % 2 == 0, steps))
    return (["a", "b", "c"], rooms)


class MachineOfTest(unittest.TestCase):
    def test_step_by_step(self):
        plain = (["a", "b"], [
            (0, False, [[(1, (0,))], [None]]),
            (1, False, [[None, (2, (1, 0))], [(3, ()), (1, (1,))]]),
            (2, True, [[(2, (1, 0)), (1, (0,)), (2, (2, 0))], [None, (3, ()), (1, (2,))]]),
            (0, True, [[None], [(3, ())]]),
        ])
        self.assertEqual(machine_of(plain), of_lines(
            "signs a b", "room 0", "a fresh 1 new", "room 1", "a fresh 2 new 0", "b 0 3", "b fresh 1 new", "room 2 good",
            "a 0 2 1 0", "a 1 1 0", "a fresh 2 new 0", "b 1 3", "b fresh 1 new", "room 0 good", "b fresh 3",
        ))

    def test_three_keepers(self):
        plain = (["a"], [(0, True, [[None]]), (3, False, [[(1, (2, 1, 0)), (1, (0, 2, 1)), None, (1, (3, 1, 2))]])])
        self.assertEqual(machine_of(plain), of_lines(
            "signs a", "room 0 good", "room 3", "a 0 1 2 1 0", "a 1 1 0 2 1", "a fresh 1 new 1 2",
        ))

    def test_no_case_told(self):
        self.assertEqual(machine_of((["a", "b"], [(0, True, [[None], [None]])])), (["a", "b"], [(0, True, [])]))

    def test_it_lets_the_same_rows_by(self):
        for plain in some_plains(120):
            machine = machine_of(plain)
            self.assertTrue(is_machine(machine))
            self.assertIs(is_single(machine), True)
            for row in some_rows(20, 8, 5):
                self.assertIs(lets_by(machine, row), let_slowly(plain, row))

    def test_its_plain_form_again(self):
        """The rooms to which some row leads, as they are found, each with every keeper in its own place."""
        for plain in some_plains(200):
            order = [0]
            for room in order:
                for cases in plain[1][room][2]:
                    order.extend(dict.fromkeys(case[0] for case in cases if case is not None and case[0] not in order))
            told = (plain[0], [
                (plain[1][room][0], plain[1][room][1], [
                    [None if case is None else (order.index(case[0]), case[1]) for case in cases] for cases in plain[1][room][2]
                ])
                for room in order
            ])
            pairs = [(room, tuple(range(plain[1][room][0]))) for room in order]
            self.assertEqual(plain_of(machine_of(plain)), (told, pairs))

    def test_plain_forms_of_plain_forms(self):
        many = 0
        for machine in some_singles(300):
            if is_single(machine):
                plain, pairs = plain_of(machine)
                if len(plain[1]) <= 12:
                    many += 1
                    self.assertEqual(plain_of(machine_of(plain))[0], plain)
        self.assertGreater(many, 100)

    def test_the_most_cases(self):
        for many in [0, 1, 119, 120]:
            machine = machine_of(with_cases(many))
            self.assertTrue(is_machine(machine))
            self.assertEqual(sum(len(steps) for keepers, good, steps in machine[1]), many)
        for many in [121, 122, 123]:
            self.assertTrue(is_plain(with_cases(many)))
            check_refused(self, TooGreat, machine_of, with_cases(many))

    def test_the_most_rooms_and_keepers(self):
        for rooms, keepers, told in [(12, 3, True), (12, 0, True), (13, 0, False), (13, 3, False), (2, 4, False), (200, 6, False)]:
            plain = (["a"], [(0, True, [[None]])] + [(keepers, False, [[None] * (keepers + 1)]) for room in range(rooms - 1)])
            self.assertTrue(is_plain(plain))
            with self.subTest(rooms=rooms, keepers=keepers):
                if told:
                    self.assertTrue(is_machine(machine_of(plain)))
                else:
                    check_refused(self, TooGreat, machine_of, plain)

    def test_a_great_plain_form_is_refused(self):
        plain = plain_of(ALL_PLACES)[0]
        check_refused(self, TooGreat, machine_of, plain)


class OwnTest(unittest.TestCase):
    def test_what_is_handed_in_stays_as_it_was(self):
        for machine in [*SINGLE.values(), ALL_PLACES, *NOT_SINGLE.values()]:
            kept = copy.deepcopy(machine)
            is_single(machine)
            try:
                plain_of(machine)
            except NotSingle:
                pass
            self.assertEqual(machine, kept)
        for plain in some_plains(20) + [with_cases(121)]:
            kept = copy.deepcopy(plain)
            try:
                machine_of(plain)
            except TooGreat:
                pass
            self.assertEqual(plain, kept)

    def test_every_list_is_a_new_one(self):
        for call, handed in [(plain_of, one) for one in SINGLE.values()] + [(machine_of, one) for one in some_plains(20)]:
            told, again = call(handed), call(handed)
            lists = lists_within(told) + lists_within(again) + lists_within(handed)
            self.assertEqual(len({id(one) for one in lists}), len(lists))

    def test_what_was_told_may_be_changed(self):
        for call, handed in [(plain_of, SINGLE["several keepers"]), (machine_of, some_plains(4)[3])]:
            told = call(handed)
            kept = copy.deepcopy(told)
            for one in lists_within(told):
                one.clear()
            self.assertEqual(call(handed), kept)

    def test_what_is_changed_afterwards_changes_nothing(self):
        machine = copy.deepcopy(SINGLE["several keepers"])
        told = plain_of(machine)
        kept = copy.deepcopy(told)
        for one in lists_within(machine):
            one.clear()
        self.assertEqual(told, kept)


if __name__ == "__main__":
    unittest.main()
