"""Least machines [2, 3, 4, 21]."""

import copy
import itertools
import random
import unittest

from freshrooms.errors import TooGreat
from freshrooms.forming import plain_of
from freshrooms.least import least_of
from freshrooms.machtexts import read_machine
from freshrooms.plains import is_plain, plain_lets
from tests.oracles import alike_slowly, fills_beside, least_faults, parted_slowly
from tests.samples import (
    AtOnce, chance_plain, check_refused, doubled, great_plain, lists_within, shuffled, some_plains, some_rows,
    with_rooms,
)


def of_lines(*lines):
    return plain_of(read_machine("\n".join(lines)))[0]


STUCK = (0, False, [[None]])
END = (0, True, [[None]])


def gathering(room_of_three, *later):
    """Signs a and b: three unlike names are gathered by a; then comes the room with three keepers, and those behind it."""
    return (["a", "b"], [
        (0, False, [[(1, (0,))], [None]]),
        (1, False, [[None, (2, (0, 1))], [None] * 2]),
        (2, False, [[None, None, (3, (0, 1, 2))], [None] * 3]),
        (3, False, room_of_three),
    ] + list(later))


# Behind the room with three keepers, 4: the room with one keeper, whose name alone leads to the good room, 5.
ASKING = [(1, False, [[(5, ()), None], [None] * 2]), (0, True, [[None], [None]])]

# By a each name asks for the next one round: so keepers may be exchanged round, but no two of them alone.
ROUND = [(4, (1,)), (4, (2,)), (4, (0,)), None]

# By a the names of 0 and 1 lead on, and ask for the name of 2: so these two may be exchanged.
FIRST_TWO = [(4, (2,)), (4, (2,)), None, None]

# By a each name leads to the good room: so all may be exchanged.
ALL_THREE = [(5, ()), (5, ()), (5, ()), None]


def refilled(plain, parted, chance):
    """The same machine with some fills in each case that lead to a standing alike to the one told."""
    def refilled_case(room, number, case):
        if case is None:
            return None
        return (case[0], chance.choice([
            fills for fills in fills_beside(plain, room, number, len(case[1]))
            if (case[0], case[0], tuple((i, fills.index(name)) for i, name in enumerate(case[1]) if name in fills)) not in parted
        ]))

    return (list(plain[0]), [
        (own, good, [[refilled_case(room, number, case) for number, case in enumerate(cases)] for cases in steps])
        for room, (own, good, steps) in enumerate(plain[1])
    ])


class ByHandTest(unittest.TestCase):
    def check(self, plain, told):
        self.assertTrue(is_plain(plain))
        self.assertEqual(least_of(plain), told)
        self.assertEqual(least_faults(plain, told), [])
        self.assertEqual(least_of(told), told)

    def test_one_that_is_least_already(self):
        for plain in [
            (["a"], [STUCK]), (["a"], [END]), (["a"], [(0, True, [[(0, ())]])]),
            (["a"], [(0, False, [[(1, (0,))]]), (1, False, [[(2, ()), (1, (1,))]]), (0, True, [[None]])]),
        ]:
            self.check(plain, plain)

    def test_rooms_from_which_none_leads_to_a_good_one(self):
        plain = (["a", "b"], [
            (0, True, [[(1, (0,))], [(0, ())]]), (1, False, [[(1, (0,)), (2, ())], [None, (1, (1,))]]), (0, False, [[(2, ())], [None]]),
        ])
        self.check(plain, (["a", "b"], [(0, True, [[None], [(0, ())]])]))

    def test_room_0_too(self):
        never = (["a", "b"], [(0, False, [[None], [None]])])
        self.check((["a", "b"], [(0, False, [[(0, ())], [(0, ())]])]), never)
        self.check((["a", "b"], [(0, False, [[(1, (0,))], [(0, ())]]), (1, False, [[(1, (0,)), (0, ())], [None, (1, (1,))]])]), never)
        self.check((["a", "b"], [(0, False, [[None], [None]]), (0, True, [[(0, ())], [(1, ())]])]), never)

    def test_rooms_to_which_no_row_leads(self):
        plain = (["a"], [(0, True, [[(2, ())]]), (0, True, [[(0, ())]]), (0, False, [[(0, ())]]), (3, True, [[(1, ())] * 4])])
        self.check(plain, (["a"], [(0, True, [[(1, ())]]), (0, False, [[(0, ())]])]))

    def test_the_order_of_the_rooms(self):
        plain = (["a", "b"], [
            (0, False, [[(3, ())], [(2, ())]]),
            (0, True, [[None], [(1, ())]]),
            (0, False, [[(1, ())], [None]]),
            (0, False, [[(2, ())], [(4, ())]]),
            (0, True, [[(4, ())], [None]]),
        ])
        self.check(plain, (["a", "b"], [
            (0, False, [[(1, ())], [(2, ())]]),
            (0, False, [[(2, ())], [(3, ())]]),
            (0, False, [[(4, ())], [None]]),
            (0, True, [[(3, ())], [None]]),
            (0, True, [[None], [(4, ())]]),
        ]))

    def test_room_0_is_come_to_again(self):
        plain = (["a"], [(0, True, [[(1, (0,))]]), (1, True, [[(2, ()), (1, (1,))]]), (0, True, [[(1, (0,))]])])
        self.check(plain, (["a"], [(0, True, [[(0, ())]])]))

    def test_keepers_that_do_not_matter(self):
        plain = (["a"], [
            (0, False, [[(1, (0,))]]), (1, False, [[None, (2, (1, 0))]]), (2, False, [[None, (3, ()), None]]), (0, True, [[None]]),
        ])
        self.check(plain, (["a"], [
            (0, False, [[(1, (0,))]]), (1, False, [[None, (2, (0,))]]), (1, False, [[(3, ()), None]]), (0, True, [[None]]),
        ]))

    def test_any_of_three_keepers_may_not_matter(self):
        """Those that matter are asked for one behind the other; wherever the others stand, they are left out."""
        for many in range(4):
            for asked in itertools.permutations(range(3), many):
                plain = gathering([[None] * 4, [None] * 4], *ASKING)
                if many > 0:
                    plain[1][3][2][0][asked[0]] = (4, (asked[1],)) if many > 1 else (5, ())
                if many > 2:
                    plain[1][3][2][1][asked[2]] = (5, ())
                told = least_of(plain)
                with self.subTest(asked=asked):
                    self.assertEqual(least_faults(plain, told), [])
                    self.assertEqual([room[0] for room in told[1]], {
                        0: [0], 1: [0, 1, 2, 1, 0], 2: [0, 1, 2, 2, 1, 0], 3: [0, 1, 2, 3, 1, 0],
                    }[many])

    def test_what_is_left_is_not_told_of(self):
        """Keeper 1 doesn't matter: the case of its name is the same as that of a name that none holds."""
        plain = (["a"], [
            (0, False, [[(1, (0,))]]),
            (1, False, [[(3, ()), (2, (0, 1))]]),
            (2, False, [[(3, ()), (2, (0, 1)), (2, (0, 2))]]),
            (0, True, [[None]]),
        ])
        self.check(plain, (["a"], [(0, False, [[(1, (0,))]]), (1, False, [[(2, ()), (1, (0,))]]), (0, True, [[None]])]))

    def test_rooms_alike_by_another_order_of_their_keepers(self):
        """By a the older name stands first, by b the newer one; both rooms ask for the newer one and go on."""
        plain = (["a", "b"], [
            (0, False, [[(1, (0,))], [(1, (0,))]]),
            (1, False, [[None, (2, (0, 1))], [None, (3, (1, 0))]]),
            (2, True, [[None, (3, (1, 0)), (2, (1, 2))], [None, None, (3, (2, 1))]]),
            (2, True, [[(2, (1, 0)), None, (3, (2, 0))], [None, None, (2, (0, 2))]]),
        ])
        self.check(plain, (["a", "b"], [
            (0, False, [[(1, (0,))], [(1, (0,))]]),
            (1, False, [[None, (2, (0, 1))], [None, (2, (0, 1))]]),
            (2, True, [[None, (2, (0, 1)), (2, (1, 2))], [None, None, (2, (1, 2))]]),
        ]))

    def test_rising_fills_in_the_case_that_finds_a_room(self):
        """However the keepers of a room stand, they are numbered as their names stand in the room ahead."""
        told = gathering([[(4, (1,)), None, None, None], [None, None, (5, ()), None]], *ASKING)
        for order in itertools.permutations(range(3)):
            plain = gathering([[None] * 4, [None] * 4], *ASKING)
            plain[1][2][2][0][2] = (3, order)
            plain[1][3][2][0][order.index(0)] = (4, (order.index(1),))
            plain[1][3][2][1][order.index(2)] = (5, ())
            with self.subTest(order=order):
                self.check(plain, told)

    def test_the_least_fills_where_several_lead_to_alike_standings(self):
        """Room 3 is found by a, and come to by b with its names in each order; which orders are alike hangs on its cases."""
        odd = [(0, 2, 1), (1, 0, 2), (2, 1, 0)]
        for cases, least_fills in [
            (ROUND, lambda order: (0, 2, 1) if order in odd else (0, 1, 2)),
            (FIRST_TWO, lambda order: tuple(sorted(order[:2])) + order[2:]),
            (ALL_THREE, lambda order: (0, 1, 2)),
            ([(4, (1,)), (5, ()), (4, (0,)), None], lambda order: order),
        ]:
            for order in itertools.permutations(range(3)):
                plain = gathering([list(cases), [None] * 4], *ASKING)
                if cases == ALL_THREE:
                    # No row leads to room 4 then.
                    plain[1][3] = (3, False, [[(4, ())] * 3 + [None], [None] * 4])
                    plain[1].pop(4)
                told = copy.deepcopy(plain)
                plain[1][2][2][1][2] = (3, order)
                told[1][2][2][1][2] = (3, least_fills(order))
                with self.subTest(cases=cases, order=order):
                    self.check(plain, told)

    def test_the_least_fills_of_more_names_than_keepers(self):
        """From a room with three unlike keepers a new name comes in the place of one, into a room of a round."""
        for order in itertools.permutations(range(4), 3):
            if 3 in order:
                plain = (["a", "b"], gathering([[None] * 4, [(5, (1,)), (4, ()), None, None]])[1] + [
                    (0, True, [[None], [None]]),
                    (1, False, [[(4, ()), None], [None] * 2]),
                    (3, True, [[(5, (1,)), (5, (2,)), (5, (0,)), None], [None] * 4]),
                    (2, False, [[None, (4, ()), None], [None] * 3]),
                ])
                plain[1][3][2][0][2] = (7, (0, 1))
                plain[1][3][2][0][3] = (6, order)
                plain[1][3][2][1][3] = (6, order[1:] + order[:1])
                plain[1][3][2][1][2] = (6, (1, 0, 2))
                told = least_of(plain)
                self.assertEqual(least_faults(plain, told), [])
                self.assertEqual(told[1][3][2][0][3][1], tuple(sorted(order)))
                self.assertEqual(told[1][3][2][1][3][1][0], min(order))


class AllSortsTest(unittest.TestCase):
    def machines(self, many, rooms):
        return [plain for plain in some_plains(many) if len(plain[1]) <= rooms]

    def test_all_that_is_said_of_it(self):
        smaller = 0
        for plain in self.machines(160, 4):
            told = least_of(plain)
            self.assertTrue(is_plain(told))
            self.assertEqual(least_faults(plain, told), [])
            smaller += len(told[1]) < len(plain[1])
        self.assertGreater(smaller, 20)

    def test_it_lets_the_same_rows_by(self):
        for plain in some_plains(120):
            told = least_of(plain)
            for row in some_rows(20, 8, 5):
                self.assertIs(plain_lets(told, row), plain_lets(plain, row))

    def test_the_least_machine_of_the_least_machine(self):
        for plain in some_plains(120):
            told = least_of(plain)
            self.assertEqual(least_of(told), told)

    def test_equal_ones_of_machines_that_let_the_same_rows_by(self):
        chance = random.Random(1)
        for plain in some_plains(120):
            told = least_of(plain)
            for number in range(3):
                self.assertEqual(least_of(shuffled(plain, chance)), told)
                self.assertEqual(least_of(shuffled(doubled(plain, chance), chance)), told)

    def test_equal_just_where_they_let_the_same_rows_by(self):
        """A machine beside one that is unlike it in one good room or one case, which may not be seen."""
        chance = random.Random(2)
        many = [0, 0]
        for plain in self.machines(240, 5):
            other = copy.deepcopy(plain)
            room = chance.randrange(len(plain[1]))
            if chance.random() < 0.5:
                other[1][room] = (other[1][room][0], not other[1][room][1], other[1][room][2])
            else:
                cases = chance.choice(other[1][room][2])
                cases[chance.randrange(len(cases))] = None
            alike = alike_slowly(plain, other)
            many[alike] += 1
            self.assertIs(least_of(plain) == least_of(other), alike)
        self.assertGreater(min(many), 30)

    def test_unlike_ones_of_other_machines(self):
        machines = [plain for plain in self.machines(80, 3) if plain[0] == ["a"]]
        leasts = [least_of(plain) for plain in machines]
        for one, other in itertools.combinations(range(len(machines)), 2):
            self.assertIs(leasts[one] == leasts[other], alike_slowly(machines[one], machines[other]))

    def test_other_fills_that_lead_to_alike_standings(self):
        """Whichever of these stand in a machine, its least one is the same."""
        chance = random.Random(3)
        changed = 0
        gathered = [gathering([list(cases), [None] * 4], *ASKING) for cases in (ROUND, FIRST_TWO, ALL_THREE)]
        for plain in gathered:
            plain[1][2][2][1][2] = (3, (2, 0, 1))
        for plain in gathered + self.machines(100, 4):
            parted = parted_slowly(plain, plain)
            told = least_of(plain)
            for number in range(3):
                other = refilled(plain, parted, chance)
                changed += other != plain
                self.assertEqual(least_of(other), told)
                self.assertEqual(least_of(shuffled(other, chance)), told)
        self.assertGreater(changed, 40)


class GreatTest(unittest.TestCase):
    def test_twelve_rooms_with_three_keepers_and_three_signs(self):
        chance = random.Random(4)
        for good, nowhere in [(1.0, 0.0), (0.0, 0.0), (0.5, 0.0), (0.5, 0.1)]:
            plain = great_plain(chance, good=good, nowhere=nowhere)
            with AtOnce(60):
                told = least_of(plain)
            self.assertTrue(is_plain(told))
            self.assertTrue(alike_slowly(plain, told))
            self.assertEqual(least_of(shuffled(plain, chance)), told)
            if nowhere == 0.0 and good != 0.5:
                case = (0, ()) if good else None
                self.assertEqual(told, (["a", "b", "c"], [(0, bool(good), [[case], [case], [case]])]))

    def test_one_that_is_least_but_for_its_order(self):
        plain = great_plain(random.Random(5), nowhere=0.1)
        told = least_of(plain)
        self.assertEqual(least_faults(plain, told), [])
        self.assertGreater(len(told[1]), 8)


class RefusedTest(unittest.TestCase):
    def test_machines_that_are_not_small(self):
        for rooms, keepers, small in [
            (12, 3, True), (1, 3, True), (13, 0, False), (13, 3, False), (2, 4, False), (12, 4, False), (200, 6, False),
        ]:
            plain = with_rooms(rooms, keepers)
            self.assertTrue(is_plain(plain))
            if small:
                self.assertEqual(least_of(plain), (["a"], [(0, True, [[None]])]))
            else:
                check_refused(self, TooGreat, least_of, plain)


class OwnTest(unittest.TestCase):
    def test_what_is_handed_in_stays_as_it_was(self):
        machines = some_plains(40)
        kept = copy.deepcopy(machines)
        for plain in machines:
            least_of(plain)
        self.assertEqual(machines, kept)

    def test_every_list_is_a_new_one(self):
        for plain in some_plains(40):
            lists = lists_within(least_of(plain)) + lists_within(least_of(plain)) + lists_within(plain)
            self.assertEqual(len({id(one) for one in lists}), len(lists))

    def test_what_was_told_may_be_changed(self):
        for plain in some_plains(10):
            told = least_of(plain)
            kept = copy.deepcopy(told)
            for one in lists_within(told):
                one.clear()
            self.assertEqual(least_of(plain), kept)

    def test_what_is_changed_afterwards_changes_nothing(self):
        plain = chance_plain(random.Random(6))
        told = least_of(plain)
        kept = copy.deepcopy(told)
        for one in lists_within(plain):
            one.clear()
        self.assertEqual(told, kept)


if __name__ == "__main__":
    unittest.main()
