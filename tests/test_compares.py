"""Two plain machines compared: tables that go on into themselves, and rows that part [2, 3, 4, 19]."""

import copy
import itertools
import random
import unittest

from freshrooms.compares import compared
from freshrooms.errors import NoFit, TooGreat
from freshrooms.plains import is_plain, is_small, plain_lets
from freshrooms.rows import exchanged, is_name
from tests.oracles import (
    after_slowly, agree_slowly, all_pairs, firsts_slowly, let_slowly, parted_slowly, read_slowly, rows_of,
)
from tests.samples import AtOnce, check_refused, chance_plain, doubled, great_plain, lists_within, shuffled, some_plains, with_rooms

FIRST = (0, 0, ())


def line_of(goods):
    """Rooms in a ring, one sign, no keepers; good as told."""
    return (["a"], [(0, good, [[((room + 1) % len(goods), ())]]) for room, good in enumerate(goods)])


def never(signs):
    return (list(signs), [(0, False, [[None] for sign in signs])])


def unlike_names(many, good):
    """Gathers unlike names, at most three; a further unlike one leads to a room, good or not, from which none leads on."""
    rooms = []
    for own in range(many):
        rooms.append((own, False, [[None] * own + [(own + 1, tuple(range(own + 1)) if own + 1 < many else ())]]))
    return (["a"], rooms + [(0, good, [[None]])])


def rounds(last_fills):
    """Gathers three names, and goes round eight rooms, once round exchanging the keepers; asks for keeper 0 in the last."""
    rooms = [
        (0, False, [[(1, (0,))], [None]]),
        (1, False, [[None, (2, (0, 1))], [None, None]]),
        (2, False, [[None, None, (3, last_fills)], [None] * 3]),
    ]
    for number in range(7):
        rooms.append((3, False, [[(4 + number, (0, 1, 2))] * 4, [None] * 4]))
    rooms.append((3, False, [[(3, (1, 2, 0))] * 4, [(11, ()), None, None, None]]))
    rooms.append((0, True, [[None], [None]]))
    return (["a", "b"], rooms)


class CheckingTest(unittest.TestCase):
    def check_alike(self, one, other, pair, told):
        self.assertEqual(told[0], "alike")
        self.assertEqual([type(told), type(told[1])], [tuple, list])
        table = told[1]
        self.assertIn(pair, table)
        pairs = set(table)
        self.assertEqual(len(pairs), len(table))
        for held in table:
            self.assertTrue(agree_slowly(one, other, held))
            self.assertLessEqual(set(after_slowly(one, other, held).values()), pairs)

    def check_apart(self, one, other, pair, told, size=None):
        self.assertEqual(told[0], "apart")
        self.assertEqual([type(told), type(told[1])], [tuple, list])
        row = told[1]
        most = sum(max(room[0] for room in plain[1]) for plain in (one, other))
        for place in row:
            self.assertEqual([type(place), type(place[0]), type(place[1])], [tuple, str, int])
            self.assertIn(place[0], one[0])
            self.assertLessEqual(0, place[1])
            self.assertLessEqual(place[1], most)
        self.assertTrue(self.parts(one, other, pair, row), row)
        if size is not None:
            self.assertEqual(len(row), size)

    def parts(self, one, other, pair, row):
        ours, theirs = firsts_slowly(one, other, pair)
        for sign, name in row:
            ours, theirs = read_slowly(one, ours, sign, name), read_slowly(other, theirs, sign, name)
        return (ours is not None and one[1][ours[0]][1]) != (theirs is not None and other[1][theirs[0]][1])


class AlikeTest(CheckingTest):
    def test_a_machine_and_itself(self):
        for plain in some_plains(60):
            self.check_alike(plain, plain, FIRST, compared(plain, plain))
            self.check_alike(plain, copy.deepcopy(plain), FIRST, compared(plain, copy.deepcopy(plain), None))

    def test_rooms_and_keepers_in_another_order(self):
        chance = random.Random(1)
        for plain in some_plains(80):
            other = shuffled(plain, chance)
            self.assertTrue(is_plain(other))
            self.check_alike(plain, other, FIRST, compared(plain, other))
            self.check_alike(other, plain, FIRST, compared(other, plain))

    def test_rooms_twice(self):
        chance = random.Random(2)
        for plain in some_plains(60):
            other = shuffled(doubled(plain, chance), chance)
            self.assertTrue(is_plain(other))
            self.check_alike(plain, other, FIRST, compared(plain, other))
            self.check_alike(other, other, FIRST, compared(other, other))

    def test_machines_that_never_let_by(self):
        one = (["a"], [(0, False, [[(1, (0,))]]), (1, False, [[(1, (0,)), (0, ())]])])
        self.check_alike(one, never(["a"]), FIRST, compared(one, never(["a"])))
        self.check_alike(never(["a"]), one, FIRST, compared(never(["a"]), one))

    def test_keepers_that_do_not_matter(self):
        one = (["a"], [(0, True, [[(1, (0,))]]), (1, False, [[(0, ()), (0, ())]])])
        self.check_alike(one, line_of([True, False]), FIRST, compared(one, line_of([True, False])))

    def test_a_good_room_that_no_row_leads_to(self):
        one = (["a"], [(0, False, [[(0, ())]]), (0, True, [[(1, ())]])])
        self.check_alike(one, never(["a"]), FIRST, compared(one, never(["a"])))
        self.check_apart(one, never(["a"]), (1, 0, ()), compared(one, never(["a"]), (1, 0, ())), 0)

    def test_the_table_of_a_small_one(self):
        one = (["a"], [(0, False, [[(1, (0,))]]), (1, True, [[None, (1, (1,))]])])
        told = compared(one, one)
        self.assertEqual(sorted(told[1]), [(-1, -1, ()), (0, 0, ()), (1, 1, ((0, 0),))])


class ApartTest(CheckingTest):
    def test_the_row_without_signs(self):
        one, other = line_of([True]), line_of([False])
        self.assertEqual(compared(one, other), ("apart", []))
        self.assertEqual(compared(other, one), ("apart", []))

    def test_a_long_row(self):
        """Rings of eleven and of twelve rooms that agree as long as two such rings can."""
        one, other = line_of([True] * 10 + [False]), line_of([True] * 10 + [False, True])
        for left, right in [(one, other), (other, one)]:
            self.check_apart(left, right, FIRST, compared(left, right), 21)

    def test_a_long_row_for_the_keepers_alone(self):
        one, other = rounds((0, 1, 2)), rounds((1, 0, 2))
        for plain in (one, other, rounds((0, 2, 1))):
            self.assertTrue(is_plain(plain) and is_small(plain))
        self.check_apart(one, other, FIRST, compared(one, other), 11)
        self.check_apart(one, rounds((0, 2, 1)), FIRST, compared(one, rounds((0, 2, 1))), 19)
        pair = (3, 3, ((0, 0), (1, 1)))
        self.check_apart(one, one, pair, compared(one, one, pair), 24)

    def test_many_unlike_names(self):
        for many in range(1, 5):
            one = unlike_names(many, True)
            self.assertTrue(is_plain(one))
            told = compared(one, never(["a"]))
            self.check_apart(one, never(["a"]), FIRST, told, many)
            self.assertEqual(sorted(name for sign, name in told[1]), list(range(many)))
            self.check_apart(one, unlike_names(many, False), FIRST, compared(one, unlike_names(many, False)), many)

    def test_seven_unlike_names(self):
        """Only a name that none of the six keepers holds parts them."""
        one = (["b"], [(0, True, [[None]]), (3, False, [[None, None, None, (0, ())]])])
        other = (["b"], [(0, True, [[None]]), (3, False, [[(0, ()), (0, ()), (0, ()), None]])])
        self.assertEqual(compared(one, other, (1, 1, ())), ("apart", [("b", 6)]))
        told = compared(one, other, (1, 1, ((2, 0),)))
        self.check_apart(one, other, (1, 1, ((2, 0),)), told, 1)

    def test_rows_of_names_that_were_held_and_left(self):
        """The names come from a few numbers, however long the row is."""
        ring = [(1, number == 10, [[None, ((number + 1) % 12 or 1, (1,))]]) for number in range(1, 12)]
        one = (["a"], [(0, False, [[(1, (0,))]])] + ring)
        self.assertTrue(is_plain(one))
        told = compared(one, never(["a"]))
        self.check_apart(one, never(["a"]), FIRST, told, 10)
        self.assertEqual({name for sign, name in told[1]}, {0, 1})

    def test_nowhere_against_a_room_that_is_not_good(self):
        one = (["a", "b"], [(0, False, [[(0, ())], [(1, ())]]), (0, True, [[None], [None]])])
        other = (["a", "b"], [(0, False, [[None], [(1, ())]]), (0, True, [[None], [None]])])
        self.assertEqual([sign for sign, name in compared(one, other)[1]], ["a", "b"])
        self.check_apart(one, other, FIRST, compared(one, other), 2)

    def test_with_its_names_exchanged(self):
        for number, one in enumerate(some_plains(30)):
            other = some_plains(60)[30 + number]
            if one[0] == other[0]:
                told = compared(one, other)
                if told[0] == "apart":
                    for start in [10 ** 59, -(10 ** 59), -3]:
                        row = exchanged(told[1], [(old, start - old) for old in range(7)])
                        self.assertTrue(all(is_name(name) for sign, name in row))
                        self.assertNotEqual(plain_lets(one, row), plain_lets(other, row))


class AllSortsTest(CheckingTest):
    def pairs_of_machines(self, many):
        """Machines of the same signs; some of them unlike in one case or one good room alone."""
        chance = random.Random(3)
        for seed in range(many):
            one = chance_plain(random.Random(seed))
            while len(one[1]) > 4:
                one = chance_plain(chance)
            other = copy.deepcopy(one)
            if seed % 3 == 0:
                while True:
                    other = chance_plain(chance)
                    if other[0] == one[0] and len(other[1]) <= 4:
                        break
            elif seed % 3 == 1:
                room = chance.randrange(len(other[1]))
                chance.choice(other[1][room][2])[-1] = None
                other = shuffled(other, chance)
            else:
                room = chance.randrange(len(other[1]))
                other[1][room] = (other[1][room][0], not other[1][room][1], other[1][room][2])
                other = shuffled(other, chance)
            yield one, other

    def test_every_pair(self):
        many = [0, 0]
        for one, other in self.pairs_of_machines(60):
            parted = parted_slowly(one, other)
            pairs = list(all_pairs(one, other))
            for pair in [FIRST] + pairs[::7]:
                told = compared(one, other, pair)
                many[pair in parted] += 1
                if pair in parted:
                    self.check_apart(one, other, pair, told, parted[pair])
                else:
                    self.check_alike(one, other, pair, told)
        self.assertGreater(min(many), 100)

    def test_alike_just_where_all_short_rows_are(self):
        """Told apart from pairs altogether: row by row."""
        many = [0, 0]
        for one, other in self.pairs_of_machines(80):
            told = compared(one, other)
            parting = [
                size for size in range(4)
                if any(let_slowly(one, row) != let_slowly(other, row) for row in rows_of(one[0], size))
            ]
            many[told[0] == "alike"] += 1
            if parting:
                self.assertEqual((told[0], len(told[1])), ("apart", parting[0]))
            else:
                self.assertTrue(told[0] == "alike" or len(told[1]) > 3)
        self.assertGreater(min(many), 10)

    def test_the_pair_left_out_or_none_is_the_first(self):
        for one, other in self.pairs_of_machines(20):
            told = compared(one, other, FIRST)
            for again in [compared(one, other), compared(one, other, None)]:
                self.assertEqual((again[0], len(again[1])), (told[0], len(told[1])))

    def test_pairs_with_nowhere(self):
        one = (["a"], [(0, False, [[(1, (0,))]]), (1, False, [[(2, ()), (1, (0,))]]), (0, True, [[None]])])
        self.check_apart(one, one, (1, -1, ()), compared(one, one, (1, -1, ())), 1)
        self.assertEqual(compared(one, one, (1, -1, ())), ("apart", [("a", 0)]))
        self.assertEqual(compared(one, one, (-1, 1, ())), ("apart", [("a", 0)]))
        self.assertEqual(compared(one, one, (-1, 2, ())), ("apart", []))
        self.check_alike(one, one, (-1, -1, ()), compared(one, one, (-1, -1, ())))
        self.check_alike(one, one, (2, 2, ()), compared(one, one, (2, 2, ())))


class GreatTest(CheckingTest):
    def test_twelve_rooms_with_three_keepers_and_three_signs(self):
        chance = random.Random(4)
        for good in [0.0, 1.0]:
            one, other = great_plain(chance, good=good), great_plain(chance, good=good)
            self.assertTrue(is_plain(one) and is_small(one) and is_plain(other) and is_small(other))
            with AtOnce(60):
                told = compared(one, other)
            self.assertGreater(len(told[1]), 1000)
            self.check_alike(one, other, FIRST, told)

    def test_one_of_them_shuffled(self):
        chance = random.Random(5)
        for nowhere in [0.0, 0.1]:
            one = great_plain(chance, nowhere=nowhere)
            other = shuffled(one, chance)
            with AtOnce(60):
                told = compared(one, other)
            self.check_alike(one, other, FIRST, told)

    def test_apart(self):
        chance = random.Random(6)
        for number in range(10):
            one = great_plain(chance, good=0.9, nowhere=0.05)
            other = shuffled(one, chance)
            room = chance.choice([q for p, q, shared in compared(one, other)[1] if q >= 0])
            other[1][room] = (other[1][room][0], not other[1][room][1], other[1][room][2])
            with AtOnce(60):
                told = compared(one, other)
            self.check_apart(one, other, FIRST, told)


class RefusedTest(unittest.TestCase):
    def test_unlike_signs(self):
        for one, other in itertools.permutations([["a"], ["b"], ["a", "b"], ["a", "c"], ["a", "b", "c"]], 2):
            check_refused(self, NoFit, compared, never(one), never(other))
            check_refused(self, NoFit, compared, never(one), never(other), None)
            check_refused(self, NoFit, compared, never(one), never(other), (-1, -1, ()))

    def test_machines_that_are_not_small(self):
        for great in [with_rooms(13), with_rooms(2, 4), with_rooms(12, 4), with_rooms(200), with_rooms(200, 6)]:
            self.assertTrue(is_plain(great))
            for one, other in [(great, with_rooms(1)), (with_rooms(1), great), (great, great)]:
                check_refused(self, TooGreat, compared, one, other)
                check_refused(self, TooGreat, compared, one, other, (-1, 0, ()))

    def test_the_greatest_that_are_small(self):
        self.assertEqual(compared(with_rooms(12, 3), with_rooms(12, 3))[0], "alike")

    def test_both_at_once(self):
        great = with_rooms(13, 4)
        for signs in [("b",), ("a", "b")]:
            for one, other in [(great, with_rooms(1, 0, signs)), (with_rooms(1, 0, signs), great),
                               (great, with_rooms(13, 4, signs))]:
                check_refused(self, NoFit, compared, one, other)


class OwnTest(unittest.TestCase):
    def test_what_is_handed_in_stays_as_it_was(self):
        machines = some_plains(40)
        kept = copy.deepcopy(machines)
        for one in machines:
            for other in machines[::5]:
                if one[0] == other[0]:
                    compared(one, other)
                    compared(one, other, (-1, 0, ()))
        self.assertEqual(machines, kept)

    def test_what_was_told_may_be_changed(self):
        one, other = rounds((0, 1, 2)), rounds((1, 0, 2))
        for left, right in [(one, one), (one, other)]:
            told = compared(left, right)
            size = len(told[1])
            told[1].clear()
            self.assertEqual(len(compared(left, right)[1]), size)

    def test_the_lists_are_new_ones(self):
        one, other = rounds((0, 1, 2)), rounds((1, 0, 2))
        for left, right in [(one, one), (one, other)]:
            lists = lists_within(compared(left, right)) + lists_within(compared(left, right)) + lists_within([one, other])
            self.assertEqual(len({id(held) for held in lists}), len(lists))


if __name__ == "__main__":
    unittest.main()
