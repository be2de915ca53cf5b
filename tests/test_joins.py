"""Machines turned and joined [2, 3, 4, 22, 23]."""

import copy
import itertools
import random
import unittest

from freshrooms.errors import NoFit, TooGreat
from freshrooms.joins import joined, turned
from freshrooms.plains import is_plain, plain_lets
from tests.oracles import GOOD_BY, all_pairs, joined_slowly, let_slowly, rows_of
from tests.samples import AtOnce, chance_plain, check_refused, great_plain, lists_within, some_plains, some_rows, with_rooms

WORDS = ["both", "either", "first", "one"]


def ring(*goods):
    """Rooms in a ring, one sign, no keepers."""
    return tail(0, *goods)


def tail(back, *goods):
    """The last room leads back to this one."""
    return (["a"], [(0, good, [[(room + 1 if room + 1 < len(goods) else back, ())]]) for room, good in enumerate(goods)])


def seen():
    """Lets by the rows of a whose first name comes again at the end."""
    return (["a"], [
        (0, False, [[(1, (0,))]]), (1, False, [[(2, (0,)), (1, (0,))]]), (1, True, [[(2, (0,)), (1, (0,))]]),
    ])


def twice():
    """Lets by the rows of a whose last two names are one."""
    return (["a"], [
        (0, False, [[(1, (0,))]]), (1, False, [[(2, (0,)), (1, (1,))]]), (1, True, [[(2, (0,)), (1, (1,))]]),
    ])


class TurnedTest(unittest.TestCase):
    def test_with_cases_that_are_none(self):
        plain = (["a", "b"], [
            (0, False, [[(1, (0,))], [None]]),
            (1, True, [[None, (2, (1, 0))], [(1, (0,)), (0, ())]]),
            (2, False, [[None, (2, (1, 0)), (1, (2,))], [None, None, None]]),
        ])
        self.assertEqual(turned(plain), (["a", "b"], [
            (0, True, [[(1, (0,))], [(3, ())]]),
            (1, False, [[(3, ()), (2, (1, 0))], [(1, (0,)), (0, ())]]),
            (2, True, [[(3, ()), (2, (1, 0)), (1, (2,))], [(3, ()), (3, ()), (3, ())]]),
            (0, True, [[(3, ())], [(3, ())]]),
        ]))

    def test_one_case_alone(self):
        for sign, room, number in [(0, 0, 0), (1, 0, 0), (0, 1, 0), (0, 1, 1), (1, 1, 1)]:
            plain = (["a", "b"], [(0, True, [[(1, (0,))], [(0, ())]]), (1, False, [[(1, (0,)), (0, ())], [(0, ()), (1, (1,))]])])
            plain[1][room][2][sign][number] = None
            told = turned(plain)
            self.assertEqual(len(told[1]), 3)
            self.assertEqual(told[1][room][2][sign][number], (2, ()))
            self.assertEqual(told[1][2], (0, True, [[(2, ())], [(2, ())]]))

    def test_without_cases_that_are_none(self):
        plain = (["a"], [(0, True, [[(1, (0,))]]), (1, False, [[(0, ()), (1, (1,))]])])
        self.assertEqual(turned(plain), (["a"], [(0, False, [[(1, (0,))]]), (1, True, [[(0, ()), (1, (1,))]])]))
        self.assertEqual(turned(turned(plain)), plain)

    def test_a_room_to_which_no_row_leads_counts_too(self):
        plain = (["a"], [(0, True, [[(0, ())]]), (0, True, [[None]])])
        self.assertEqual(turned(plain), (["a"], [(0, False, [[(0, ())]]), (0, False, [[(2, ())]]), (0, True, [[(2, ())]])]))

    def test_turned_twice(self):
        for plain in some_plains(80):
            once = turned(plain)
            again = turned(once)
            self.assertEqual(len(again[1]), len(once[1]))
            self.assertEqual([good for own, good, steps in again[1]], [not good for own, good, steps in once[1]])
            self.assertEqual([steps for own, good, steps in again[1]], [steps for own, good, steps in once[1]])
            for row in some_rows(10, 6, 4):
                if all(sign in plain[0] for sign, name in row):
                    self.assertIs(plain_lets(again, row), let_slowly(plain, row))

    def test_all_sorts(self):
        grown = 0
        for plain in some_plains(100):
            told = turned(plain)
            self.assertTrue(is_plain(told))
            lacking = any(None in cases for own, good, steps in plain[1] for cases in steps)
            self.assertEqual(len(told[1]) - len(plain[1]), lacking)
            self.assertEqual([own for own, good, steps in told[1]], [own for own, good, steps in plain[1]] + [0] * lacking)
            grown += lacking
            for row in some_rows(25, 8, 5):
                if all(sign in plain[0] for sign, name in row):
                    self.assertIs(plain_lets(told, row), not let_slowly(plain, row))
                else:
                    self.assertIs(plain_lets(told, row), False)
        self.assertGreater(grown, 30)

    def test_great_ones(self):
        told = turned(with_rooms(199, 6))
        self.assertEqual(len(told[1]), 200)
        self.assertTrue(is_plain(told))
        self.assertEqual(told[1][7], (6, False, [[(199, ())] * 7]))
        self.assertEqual(len(turned(with_rooms(12, 3))[1]), 13)


class JoinedTest(unittest.TestCase):
    def test_room_by_room(self):
        plain, pairs = joined("both", seen(), twice())
        self.assertEqual(pairs, [
            (0, 0, ()), (1, 1, ((0, 0),)), (2, 2, ((0, 0),)), (1, 1, ()), (2, 1, ((0, 0),)), (1, 2, ()),
        ])
        self.assertEqual(plain, (["a"], [
            (0, False, [[(1, (0,))]]),
            (1, False, [[(2, (0,)), (3, (0, 1))]]),
            (1, True, [[(2, (0,)), (3, (0, 1))]]),
            (2, False, [[(4, (0,)), (5, (0, 1)), (3, (0, 2))]]),
            (1, False, [[(2, (0,)), (3, (0, 1))]]),
            (2, False, [[(4, (0,)), (5, (0, 1)), (3, (0, 2))]]),
        ]))
        for word, goods in [
            ("either", [False, False, True, False, True, True]), ("first", [False, False, False, False, True, False]),
            ("one", [False, False, False, False, True, True]),
        ]:
            other = joined(word, seen(), twice())
            self.assertEqual(other[1], pairs)
            self.assertEqual([room[1] for room in other[0][1]], goods)
            self.assertEqual([room[2] for room in other[0][1]], [room[2] for room in plain[1]])

    def test_the_keepers_of_both(self):
        """The keepers of p in order, then those of q that aren't shared; here some of q stand ahead of the shared ones."""
        one = (["a", "b"], [
            (0, False, [[(1, (0,))], [None]]), (1, False, [[None, (2, (1, 0))], [None] * 2]), (2, True, [[None] * 3, [(1, (0,)), None, None]]),
        ])
        other = (["a", "b"], [
            (0, True, [[(1, (0,))], [None]]), (1, True, [[None, (2, (0, 1))], [None] * 2]),
            (2, False, [[None, None, (3, (2, 0, 1))], [(1, (1,)), None, None]]), (3, True, [[None] * 4, [None] * 4]),
        ])
        plain, pairs = joined("one", one, other)
        self.assertEqual(pairs, [
            (0, 0, ()), (1, 1, ((0, 0),)), (2, 2, ((0, 1), (1, 0))), (-1, 3, ()), (1, -1, ()), (-1, 1, ()), (2, -1, ()),
            (-1, 2, ()),
        ])
        self.assertEqual(plain[1][2], (2, True, [[None, None, (3, (2, 1, 0))], [(4, (0,)), (5, (0,)), None]]))
        self.assertEqual(plain[1][3], (3, True, [[None] * 4, [None] * 4]))
        self.assertEqual(plain[1][4], (1, False, [[None, (6, (1, 0))], [None, None]]))
        self.assertEqual((plain, pairs), joined_slowly("one", one, other))

    def test_unshared_keepers_of_the_second_stand_last(self):
        """Keepers of q stand ahead of the shared one there, and behind those of p in the joined room."""
        one = (["a"], [
            (0, False, [[(1, (0,))]]), (1, False, [[None, (2, (0, 1))]]), (2, False, [[None, None, (3, (2, 0))]]),
            (2, False, [[None, None, (3, (2, 1))]]),
        ])
        other = (["a"], [
            (0, False, [[(1, (0,))]]), (1, False, [[None, (2, (0, 1))]]), (2, False, [[None, None, (3, (0, 2, 1))]]),
            (3, True, [[None, None, None, (3, (1, 3, 2))]]),
        ])
        plain, pairs = joined("either", one, other)
        self.assertEqual(pairs, [
            (0, 0, ()), (1, 1, ((0, 0),)), (2, 2, ((0, 0), (1, 1))), (3, 3, ((0, 1), (1, 0))), (3, -1, ()), (3, 3, ((0, 1),)),
            (-1, 3, ()),
        ])
        self.assertEqual(plain[1][3:], [
            (3, True, [[None, None, (4, (2, 1)), (5, (3, 1, 0, 2))]]),
            (2, False, [[None, None, (4, (2, 1))]]),
            (4, True, [[None, (6, (0, 1, 3)), (4, (2, 1)), (4, (3, 1)), (5, (4, 1, 0, 3))]]),
            (3, True, [[None, None, None, (6, (1, 3, 2))]]),
        ])
        self.assertEqual((plain, pairs), joined_slowly("either", one, other))

    def test_nowhere_for_both_is_no_room(self):
        one = (["a", "b"], [(0, True, [[None], [(0, ())]])])
        other = (["a", "b"], [(0, True, [[None], [None]])])
        self.assertEqual(joined("first", one, other), (
            (["a", "b"], [(0, False, [[None], [(1, ())]]), (0, True, [[None], [(1, ())]])]), [(0, 0, ()), (0, -1, ())],
        ))
        self.assertEqual(joined("both", other, other), ((["a", "b"], [(0, True, [[None], [None]])]), [(0, 0, ())]))

    def test_it_is_not_made_least(self):
        plain, pairs = joined("first", seen(), seen())
        self.assertEqual(len(plain[1]), 3)
        self.assertEqual([good for own, good, steps in plain[1]], [False] * 3)

    def test_the_order_in_which_rooms_are_found(self):
        one = (["a", "b"], [(0, True, [[(2, ())], [(1, ())]]), (0, True, [[(0, ())], [None]]), (0, False, [[None], [(1, ())]])])
        plain, pairs = joined("both", one, one)
        self.assertEqual(pairs, [(0, 0, ()), (2, 2, ()), (1, 1, ())])
        self.assertEqual(plain, (["a", "b"], [
            (0, True, [[(1, ())], [(2, ())]]), (0, False, [[None], [(2, ())]]), (0, True, [[(0, ())], [None]]),
        ]))

    def test_all_sorts(self):
        chance = random.Random(1)
        kept = [0, 0]
        drawn = [(chance_plain(chance), chance_plain(chance)) for number in range(120)]
        drawn += [(great_plain(chance, rooms, 2), great_plain(chance, rooms, 3)) for rooms in (2, 3, 4, 5, 6)]
        for one, other in drawn:
            if one[0] != other[0]:
                continue
            for word in WORDS:
                told = joined_slowly(word, one, other)
                kept[len(told[1]) <= 40] += 1
                if len(told[1]) <= 40:
                    plain, pairs = joined(word, one, other)
                    self.assertTrue(is_plain(plain))
                    self.assertEqual((plain, pairs), told)
                    self.assertLessEqual(set(pairs), set(all_pairs(one, other)))
                    for row in some_rows(15, 8, 5):
                        good = GOOD_BY[word](let_slowly(one, row), let_slowly(other, row))
                        self.assertIs(plain_lets(plain, row), good)
                else:
                    check_refused(self, TooGreat, joined, word, one, other)
        self.assertGreater(min(kept), 10)

    def test_row_by_row(self):
        for word in WORDS:
            plain = joined(word, seen(), twice())[0]
            for size in range(6):
                for row in rows_of(["a"], size):
                    names = [name for sign, name in row]
                    ours, theirs = size > 1 and names[-1] == names[0], size > 1 and names[-1] == names[-2]
                    self.assertIs(plain_lets(plain, row), GOOD_BY[word](ours, theirs))

    def test_its_kinds(self):
        told = joined("both", seen(), twice())
        self.assertEqual([type(told), type(told[0]), type(told[1]), type(told[1][1]), type(told[1][1][2])],
                         [tuple, tuple, list, tuple, tuple])


class BoundsTest(unittest.TestCase):
    def test_just_forty_rooms(self):
        one, other = ring(*[True] * 8), ring(*[True, False, True, False, True])
        for word in WORDS:
            for left, right in [(one, other), (other, one)]:
                plain, pairs = joined(word, left, right)
                self.assertEqual(len(pairs), 40)
                self.assertEqual(len(plain[1]), 40)
                self.assertTrue(is_plain(plain))

    def test_forty_rooms_beside_nowhere(self):
        """Nowhere for both is no room, so it doesn't count."""
        one, other = ring(*[True] * 8), ring(*[True] * 5)
        one, other = [(["a", "b"], [(own, good, steps + [[None]]) for own, good, steps in plain[1]]) for plain in (one, other)]
        self.assertEqual(len(joined("both", one, other)[1]), 40)

    def test_more_than_forty(self):
        one, other = tail(1, *[True] * 9), ring(*[True] * 5)
        self.assertEqual(len(joined_slowly("both", one, other)[1]), 41)
        for word in WORDS:
            check_refused(self, TooGreat, joined, word, one, other)
            check_refused(self, TooGreat, joined, word, other, one)
            check_refused(self, TooGreat, joined, word, ring(*[True] * 11), ring(*[True] * 12))

    def test_far_more_than_forty(self):
        chance = random.Random(2)
        one, other = great_plain(chance), great_plain(chance)
        with AtOnce(20):
            check_refused(self, TooGreat, joined, "both", one, other)

    def test_six_keepers(self):
        """Each machine has three keepers, and none of them is shared."""
        one = (["a"], [(0, False, [[(1, (0,))]])] + [
            (own, False, [[None] * own + [(own + 1, tuple(range(own + 1)))]]) for own in (1, 2)
        ] + [(3, True, [[None] * 3 + [(3, (0, 1, 2))]])])
        other = (["a"], [(0, False, [[(1, ())]]), (0, False, [[(2, ())]]), (0, False, [[(3, ())]]), (0, False, [[(4, (0,))]]),
                         (1, False, [[None, (5, (0, 1))]]), (2, False, [[None, None, (6, (0, 1, 2))]]), (3, True, [[None] * 4])])
        plain, pairs = joined("both", one, other)
        self.assertTrue(is_plain(plain))
        self.assertEqual((plain, pairs), joined_slowly("both", one, other))
        self.assertIn((3, 6, ()), pairs)
        self.assertEqual(max(room[0] for room in plain[1]), 6)
        self.assertIs(plain_lets(plain, [("a", name) for name in range(6)]), True)


class RefusedTest(unittest.TestCase):
    def test_other_words(self):
        for word in ["", "Both", "both ", " both", "eithe", "eitherr", "and", "or", "neither", "ones", "first\n", "two", "b", "bothone"]:
            check_refused(self, NoFit, joined, word, seen(), twice())

    def test_unlike_signs(self):
        for one, other in itertools.permutations([("a",), ("b",), ("a", "b"), ("a", "b", "c")], 2):
            for word in WORDS:
                check_refused(self, NoFit, joined, word, with_rooms(1, 0, one), with_rooms(1, 0, other))

    def test_machines_that_are_not_small(self):
        for great in [with_rooms(13), with_rooms(2, 4), with_rooms(12, 4), with_rooms(200, 6)]:
            for word in WORDS:
                check_refused(self, TooGreat, joined, word, great, with_rooms(1))
                check_refused(self, TooGreat, joined, word, with_rooms(1), great)
                check_refused(self, TooGreat, joined, word, great, great)
        self.assertEqual(joined("both", with_rooms(12, 3), with_rooms(12, 3))[1], [(0, 0, ())])

    def test_several_at_once(self):
        great, other = with_rooms(13, 4), with_rooms(13, 4, ("b",))
        check_refused(self, NoFit, joined, "neither", great, great)
        check_refused(self, NoFit, joined, "neither", great, other)
        check_refused(self, NoFit, joined, "neither", with_rooms(1), other)
        check_refused(self, NoFit, joined, "both", great, other)
        check_refused(self, NoFit, joined, "both", with_rooms(1), other)
        check_refused(self, NoFit, joined, "both", great, with_rooms(1, 0, ("a", "b")))
        check_refused(self, NoFit, joined, "nor", ring(*[True] * 11), ring(*[True] * 12))


class OwnTest(unittest.TestCase):
    def test_what_is_handed_in_stays_as_it_was(self):
        machines = some_plains(30)
        kept = copy.deepcopy(machines)
        for one in machines:
            turned(one)
            for other in machines[::4]:
                if one[0] == other[0]:
                    try:
                        joined("either", one, other)
                    except TooGreat:
                        pass
        self.assertEqual(machines, kept)

    def test_every_list_is_a_new_one(self):
        for plain in some_plains(30):
            lists = lists_within(turned(plain)) + lists_within(turned(plain)) + lists_within(plain)
            self.assertEqual(len({id(one) for one in lists}), len(lists))
        one, other = seen(), twice()
        lists = lists_within([joined("one", one, other), joined("one", one, other), one, other])
        self.assertEqual(len({id(held) for held in lists}), len(lists))

    def test_what_was_told_may_be_changed(self):
        one, other = seen(), twice()
        for call in [lambda: turned(one), lambda: joined("either", one, other)]:
            told = call()
            kept = copy.deepcopy(told)
            for held in lists_within(told):
                held.clear()
            self.assertEqual((one, other), (seen(), twice()))
            self.assertEqual(call(), kept)


if __name__ == "__main__":
    unittest.main()
