"""Pairs of rooms of two plain machines, and the pairs behind them [2, 17, 18]."""

import copy
import random
import unittest

from freshrooms.pairs import agrees, pair_behind, pairs_behind
from freshrooms.plains import is_plain
from tests.oracles import after_slowly, agree_slowly, all_pairs
from tests.samples import chance_plain, some_plains


def first_one():
    """Signs a and b; rooms of 0, 2, 3 and 1 keepers."""
    return (["a", "b"], [
        (0, False, [[(3, (0,))], [(0, ())]]),
        (2, True, [[(1, (1, 0)), (3, (0,)), (2, (2, 0, 1))], [(0, ()), None, (1, (2, 0))]]),
        (3, False, [[(2, (1, 2, 0)), None, (1, (0, 2)), (2, (0, 1, 3))], [(3, (2,)), (3, (1,)), (3, (0,)), (3, (3,))]]),
        (1, True, [[(3, (0,)), (1, (0, 1))], [None, (3, (1,))]]),
    ])


def second_one():
    """Signs a and b; rooms of 0, 1 and 2 keepers."""
    return (["a", "b"], [
        (0, True, [[(1, (0,))], [None]]),
        (1, False, [[(1, (0,)), (2, (1, 0))], [(0, ()), (1, (1,))]]),
        (2, True, [[(2, (1, 0)), (2, (0, 1)), (2, (0, 2))], [None, (1, (0,)), (0, ())]]),
    ])


def with_keepers(keepers, good=False):
    """One room, and behind it one of so many keepers, in which all stays as it is, with one sign."""
    return (["a"], [
        (0, good, [[None]]), (keepers, good, [[(1, tuple(range(keepers)))] * (keepers + 1)]),
    ])


def held_in(plain, room):
    return 0 if room == -1 else plain[1][room][0]


class PairBehindTest(unittest.TestCase):
    def test_machines(self):
        self.assertTrue(is_plain(first_one()))
        self.assertTrue(is_plain(second_one()))

    def test_each_kind_of_name(self):
        for pair, sign, i, j, told in [
            # none holds it
            ((0, 0, ()), "a", None, None, (3, 1, ((0, 0),))),
            ((0, 0, ()), "b", None, None, (0, -1, ())),
            ((3, 1, ()), "a", None, None, (1, 2, ((1, 0),))),
            ((3, 1, ((0, 0),)), "a", None, None, (1, 2, ((0, 1), (1, 0)))),
            ((3, 1, ((0, 0),)), "b", None, None, (3, 1, ((0, 0),))),
            ((1, 2, ((0, 1), (1, 0))), "a", None, None, (2, 2, ((0, 1), (2, 0)))),
            ((1, 2, ((1, 1),)), "b", None, None, (1, 0, ())),
            # a keeper of the one
            ((1, 2, ()), "a", 0, None, (1, 2, ((1, 1),))),
            ((1, 2, ()), "a", 1, None, (3, 2, ())),
            ((1, 2, ((0, 1),)), "a", 1, None, (3, 2, ())),
            ((1, 2, ((1, 1),)), "b", 0, None, (0, 0, ())),
            ((2, 1, ((0, 0),)), "b", 2, None, (3, 1, ())),
            ((2, 1, ((0, 0),)), "b", 1, None, (3, 1, ((0, 0),))),
            ((2, 1, ((1, 0),)), "a", 2, None, (1, 2, ((1, 0),))),
            # a keeper of the other
            ((1, 2, ()), "a", None, 0, (2, 2, ((0, 1),))),
            ((1, 2, ()), "a", None, 1, (2, 2, ((0, 1),))),
            ((1, 2, ((0, 0),)), "a", None, 1, (2, 2, ((0, 1), (1, 0)))),
            ((3, 1, ()), "a", None, 0, (1, 1, ((1, 0),))),
            ((3, 1, ()), "b", None, 0, (3, 0, ())),
            # both, shared
            ((3, 1, ((0, 0),)), "a", 0, 0, (3, 1, ((0, 0),))),
            ((3, 1, ((0, 0),)), "b", 0, 0, (-1, 0, ())),
            ((1, 2, ((0, 1), (1, 0))), "a", 0, 1, (1, 2, ((0, 0), (1, 1)))),
            ((1, 2, ((0, 1), (1, 0))), "a", 1, 0, (3, 2, ((0, 0),))),
            ((1, 2, ((0, 0),)), "a", 0, 0, (1, 2, ((1, 1),))),
            ((1, 2, ((0, 0),)), "b", 0, 0, (0, -1, ())),
            ((2, 2, ((0, 1), (1, 0))), "b", 0, 1, (3, 1, ())),
            ((2, 2, ((0, 1), (2, 0))), "b", 0, 1, (3, 1, ((0, 0),))),
            ((2, 2, ((0, 1), (2, 0))), "a", 2, 0, (1, 2, ((0, 0), (1, 1)))),
            # from nowhere
            ((-1, 2, ()), "a", None, 0, (-1, 2, ())),
            ((-1, 2, ()), "a", None, 1, (-1, 2, ())),
            ((-1, 2, ()), "b", None, 0, (-1, -1, ())),
            ((-1, 2, ()), "b", None, 1, (-1, 1, ())),
            ((-1, 2, ()), "b", None, None, (-1, 0, ())),
            ((2, -1, ()), "a", 0, None, (2, -1, ())),
            ((2, -1, ()), "a", 1, None, (-1, -1, ())),
            ((2, -1, ()), "a", None, None, (2, -1, ())),
            ((-1, -1, ()), "a", None, None, (-1, -1, ())),
            ((-1, -1, ()), "b", None, None, (-1, -1, ())),
        ]:
            with self.subTest(pair=pair, sign=sign, i=i, j=j):
                self.assertEqual(pair_behind(first_one(), second_one(), pair, sign, i, j), told)

    def test_all_pairs(self):
        for one, other in [(first_one(), second_one()), (second_one(), first_one()), (first_one(), first_one())]:
            for pair in all_pairs(one, other):
                for (sign, i, j), told in after_slowly(one, other, pair).items():
                    self.assertEqual(pair_behind(one, other, pair, sign, i, j), told)

    def test_all_sorts(self):
        chance = random.Random(7)
        for one in some_plains(60):
            other = chance_plain(chance)
            other = (one[0], [(own, good, (steps * 3)[:len(one[0])]) for own, good, steps in other[1]])
            pairs = list(all_pairs(one, other))
            for pair in chance.sample(pairs, min(20, len(pairs))):
                for (sign, i, j), told in after_slowly(one, other, pair).items():
                    self.assertEqual(pair_behind(one, other, pair, sign, i, j), told)

    def test_six_keepers(self):
        one, other = with_keepers(6), with_keepers(5)
        pair = (1, 1, ((0, 4), (2, 0), (5, 3)))
        for i, j in [(0, 4), (2, 0), (5, 3), (1, None), (3, None), (None, 1), (None, 2), (None, None)]:
            self.assertEqual(pair_behind(one, other, pair, "a", i, j), pair)

    def test_its_kinds(self):
        told = pair_behind(first_one(), second_one(), (1, 2, ((0, 0),)), "a", None, None)
        self.assertEqual([type(told), type(told[0]), type(told[1]), type(told[2]), type(told[2][0])],
                         [tuple, int, int, tuple, tuple])


class PairsBehindTest(unittest.TestCase):
    def test_rising_and_each_once(self):
        for pair, told in [
            ((0, 0, ()), [(0, -1, ()), (3, 1, ((0, 0),))]),
            ((-1, -1, ()), [(-1, -1, ())]),
            ((-1, 0, ()), [(-1, -1, ()), (-1, 1, ())]),
            ((-1, 2, ()), [(-1, -1, ()), (-1, 0, ()), (-1, 1, ()), (-1, 2, ())]),
            ((0, -1, ()), [(0, -1, ()), (3, -1, ())]),
            ((3, 1, ()), [
                (-1, 1, ()), (1, 1, ((1, 0),)), (1, 2, ((1, 0),)), (3, 0, ()), (3, 1, ((0, 0),)), (3, 2, ((0, 0),)),
            ]),
            ((3, 1, ((0, 0),)), [(-1, 0, ()), (1, 2, ((0, 1), (1, 0))), (3, 1, ((0, 0),))]),
        ]:
            with self.subTest(pair=pair):
                self.assertEqual(pairs_behind(first_one(), second_one(), pair), told)

    def test_all_sorts(self):
        for one in some_plains(40):
            for pair in list(all_pairs(one, one))[::9]:
                after = after_slowly(one, one, pair)
                self.assertEqual(pairs_behind(one, one, pair), sorted(set(after.values())))
                together = held_in(one, pair[0]) + held_in(one, pair[1]) - len(pair[2]) + 1
                self.assertEqual(len(after), together * len(one[0]))

    def test_as_many_as_there_are(self):
        """Each name leads to a room of its own: as many pairs as both have keepers, less the shared, and one more."""
        one = (["a"], [(0, True, [[None]]), (2, True, [[(0, ()), (2, ()), (3, ())]])] + [(0, True, [[None]])] * 2)
        other = (["a"], [(0, True, [[None]]), (3, True, [[(0, ()), (2, ()), (3, ()), (4, ())]])] + [(0, True, [[None]])] * 3)
        for shared, told in [
            ((), [(0, 4, ()), (2, 4, ()), (3, 0, ()), (3, 2, ()), (3, 3, ()), (3, 4, ())]),
            (((0, 1),), [(0, 2, ()), (2, 4, ()), (3, 0, ()), (3, 3, ()), (3, 4, ())]),
            (((0, 2), (1, 0)), [(0, 3, ()), (2, 0, ()), (3, 2, ()), (3, 4, ())]),
        ]:
            self.assertEqual(pairs_behind(one, other, (1, 1, shared)), told)

    def test_each_sign_of_three(self):
        one = (["a", "b", "c"], [(0, True, [[(0, ())], [(1, ())], [None]]), (0, False, [[None], [None], [None]])])
        self.assertEqual(pairs_behind(one, one, (0, 0, ())), [(-1, -1, ()), (0, 0, ()), (1, 1, ())])
        self.assertEqual(pairs_behind(one, one, (0, 1, ())), [(-1, -1, ()), (0, -1, ()), (1, -1, ())])

    def test_the_list_is_the_askers_own(self):
        told = pairs_behind(first_one(), second_one(), (3, 1, ()))
        kept = list(told)
        told.clear()
        self.assertEqual(pairs_behind(first_one(), second_one(), (3, 1, ())), kept)


class AgreesTest(unittest.TestCase):
    def test_pairs_that_agree_and_not(self):
        for pair, told in [
            ((0, 0, ()), False), ((0, 1, ()), True), ((0, 2, ()), False), ((1, 0, ()), True), ((1, 1, ((0, 0),)), False),
            ((1, 2, ((0, 1),)), True), ((2, 1, ()), True), ((2, 2, ()), False), ((-1, 0, ()), False), ((-1, 1, ()), True),
            ((0, -1, ()), True), ((1, -1, ()), False), ((3, -1, ()), False), ((-1, -1, ()), True), ((-1, 2, ()), False),
        ]:
            with self.subTest(pair=pair):
                self.assertIs(agrees(first_one(), second_one(), pair), told)

    def test_the_last_room_is_not_nowhere(self):
        one, other = with_keepers(1, True), with_keepers(1, False)
        self.assertIs(agrees(one, other, (-1, -1, ())), True)
        self.assertIs(agrees(one, one, (-1, 1, ())), False)
        self.assertIs(agrees(one, one, (1, -1, ())), False)

    def test_all_sorts(self):
        for one in some_plains(30):
            for pair in all_pairs(one, one):
                self.assertIs(agrees(one, one, pair), agree_slowly(one, one, pair))


class OwnTest(unittest.TestCase):
    def test_what_is_handed_in_stays_as_it_was(self):
        one, other = first_one(), second_one()
        for pair in all_pairs(one, other):
            agrees(one, other, pair)
            pairs_behind(one, other, pair)
            pair_behind(one, other, pair, "a", None, None)
        self.assertEqual((one, other), (first_one(), second_one()))

    def test_what_is_done_afterwards_changes_nothing(self):
        one, other = first_one(), second_one()
        told = pairs_behind(one, other, (1, 2, ()))
        kept = copy.deepcopy(told)
        one[1].clear()
        other[1].clear()
        self.assertEqual(told, kept)


if __name__ == "__main__":
    unittest.main()
