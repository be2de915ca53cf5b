"""What holds over the whole program, on machines that are drawn by counting [1, 4]."""

import itertools
import unittest

from freshrooms.alikes import matters
from freshrooms.compares import compared
from freshrooms.desk import Desk
from freshrooms.errors import NotSingle, TooGreat
from freshrooms.forming import is_single, machine_of, plain_of
from freshrooms.going import lets_by
from freshrooms.joins import joined, turned
from freshrooms.least import least_of
from freshrooms.machines import is_machine
from freshrooms.machtexts import read_machine, show_machine
from freshrooms.pairs import agrees, pairs_behind
from freshrooms.plains import is_plain, is_small, plain_lets
from freshrooms.rows import exchanged, shape_of
from freshrooms.rowtexts import read_row, show_row
from freshrooms.tables import plain_by, shapes_of
from tests.oracles import GOOD_BY, alike_slowly, let_slowly, rows_of


class Counting:
    """Numbers that look drawn by chance, but are counted from the first one on."""

    def __init__(self, number):
        self.number = number

    def below(self, end):
        self.number = (self.number * 6364136223846793005 + 1442695040888963407) % 2 ** 64
        return (self.number >> 33) % end

    def one_of(self, things):
        return things[self.below(len(things))]

    def unlike_ones(self, things, many):
        left = list(things)
        return [left.pop(self.below(len(left))) for number in range(many)]


def drawn_machine(number):
    count = Counting(number)
    signs = ["a", "b"][:1 + count.below(2)]
    keepers = [count.below(3) for room in range(1 + count.below(4))]
    rooms = []
    for own in keepers:
        steps = []
        for sign in signs:
            asked = ["any"] if count.below(5) == 0 else ["fresh"] + list(range(own))
            for asks in count.unlike_ones(asked, len(asked) - count.below(2) * count.below(2)):
                to = count.below(len(keepers))
                things = ["new", "new", None] + list(range(own))
                steps.append((sign, asks, to, tuple(count.one_of(things) for keeper in range(keepers[to]))))
        rooms.append((own, count.below(2) == 0, steps))
    return (signs, rooms)


def drawn_plain(number, signs=("a", "b"), rooms=4, keepers=2):
    count = Counting(number)
    owns = [0] + [count.below(keepers + 1) for room in range(rooms - 1)]

    def case(end):
        if count.below(6) == 0:
            return None
        to = count.one_of([room for room, many in enumerate(owns) if many <= end])
        return (to, tuple(count.unlike_ones(range(end), owns[to])))

    return (list(signs), [
        (own, count.below(2) == 0, [[case(own) for keeper in range(own)] + [case(own + 1)] for sign in signs]) for own in owns
    ])


def drawn_rows(number, signs, many, most_signs=10):
    count = Counting(number)
    names = [0, 1, -1, 10 ** 60 - 1, 1 - 10 ** 60, 77]
    return [
        [(count.one_of(signs), count.one_of(names[:1 + count.below(6)])) for place in range(count.below(most_signs + 1))]
        for row in range(many)
    ]


def all_small_ones():
    """Every plain machine of one sign with a room without keepers and a room with one."""
    first = [None, (0, ()), (1, (0,))]
    held = [None, (0, ()), (1, (0,))]
    last = held + [(1, (1,))]
    for goods in itertools.product([False, True], repeat=2):
        for begin, own, other in itertools.product(first, held, last):
            yield (["a"], [(0, goods[0], [[begin]]), (1, goods[1], [[own, other]])])


SINGLES = [machine for machine in map(drawn_machine, range(300)) if is_single(machine)]
EXCHANGES = [
    [(0, 1), (1, 0)],
    [(0, -5), (1, 10 ** 59), (-1, 0), (77, 1)],
    [(10 ** 60 - 1, 1 - 10 ** 60), (1 - 10 ** 60, 10 ** 60 - 1), (77, 78)],
]


class NamesExchangedTest(unittest.TestCase):
    def test_nothing_hangs_on_which_names_they_are(self):
        let = 0
        for number in range(80):
            machine, plain = drawn_machine(number), drawn_plain(number)
            for row in drawn_rows(number, ["a", "b"], 15, 6):
                told = lets_by(machine, row), plain_lets(plain, row)
                let += sum(told)
                for other in [shape_of(row)] + [exchanged(row, pairs) for pairs in EXCHANGES]:
                    self.assertEqual((lets_by(machine, other), plain_lets(plain, other)), told)
        self.assertGreater(let, 100)


class PlainFormTest(unittest.TestCase):
    def test_many_are_drawn(self):
        self.assertGreater(len(SINGLES), 80)
        self.assertTrue(all(is_machine(machine) for machine in SINGLES))

    def test_it_lets_the_same_rows_by(self):
        let = 0
        for number, machine in enumerate(SINGLES):
            plain = plain_of(machine)[0]
            self.assertTrue(is_plain(plain))
            for row in drawn_rows(number, machine[0], 20) + rows_of(machine[0], 3):
                told = lets_by(machine, row)
                let += told
                self.assertIs(plain_lets(plain, row), told)
        self.assertGreater(let, 500)

    def test_from_form_to_form(self):
        """Told, written, read, and told plainly again."""
        for machine in SINGLES:
            plain = plain_of(read_machine(show_machine(machine)))[0]
            if is_small(plain):
                least = least_of(plain)
                self.assertEqual(plain_of(machine_of(least))[0], least)
                self.assertEqual(plain_of(read_machine(show_machine(machine_of(plain))))[0], plain)
                self.assertEqual(compared(plain, least)[0], "alike")

    def test_machines_that_are_not_told_singly(self):
        refused = 0
        for number in range(300):
            machine = drawn_machine(number)
            if not is_single(machine):
                refused += 1
                with self.assertRaises(NotSingle):
                    plain_of(machine)
        self.assertGreater(refused, 50)


class EverySmallOneTest(unittest.TestCase):
    """All machines of one sign with two rooms, and all pairs of them."""

    def setUp(self):
        self.machines = list(all_small_ones())

    def test_there_are_so_many(self):
        self.assertEqual(len(self.machines), 144)
        self.assertTrue(all(is_plain(plain) for plain in self.machines))

    def test_least_ones_are_equal_just_where_the_rows_are(self):
        leasts = [least_of(plain) for plain in self.machines]
        kinds = []
        for one, other in itertools.combinations(range(len(self.machines)), 2):
            alike = alike_slowly(self.machines[one], self.machines[other])
            kinds.append(alike)
            self.assertIs(leasts[one] == leasts[other], alike)
            if alike:
                self.assertLessEqual(len(leasts[one][1]), len(self.machines[other][1]))
        self.assertGreater(min(kinds.count(True), kinds.count(False)), 500)

    def test_compared(self):
        for one, other in itertools.product(self.machines[::3], self.machines[::4]):
            told = compared(one, other)
            if told[0] == "alike":
                table = set(told[1])
                self.assertIn((0, 0, ()), table)
                for pair in told[1]:
                    self.assertTrue(agrees(one, other, pair))
                    self.assertLessEqual(set(pairs_behind(one, other, pair)), table)
            else:
                row = told[1]
                self.assertNotEqual(let_slowly(one, row), let_slowly(other, row))
                self.assertLessEqual(len({name for sign, name in row}), 3)
                for size in range(min(len(row), 5)):
                    for shorter in rows_of(["a"], size):
                        self.assertEqual(let_slowly(one, shorter), let_slowly(other, shorter))

    def test_joined(self):
        for one, other in itertools.product(self.machines[::5], self.machines[::7]):
            for word, good in GOOD_BY.items():
                plain = joined(word, one, other)[0]
                for row in rows_of(["a"], 3) + rows_of(["a"], 1) + [[]]:
                    self.assertIs(plain_lets(plain, row), good(let_slowly(one, row), let_slowly(other, row)))


class ComparedTest(unittest.TestCase):
    def test_tables_and_rows(self):
        many = [0, 0]
        for number in range(150):
            one = drawn_plain(number, rooms=2 + number % 4)
            other = least_of(one) if number % 3 == 0 else drawn_plain(number + 1000, rooms=2 + number % 3)
            told = compared(one, other)
            many[told[0] == "alike"] += 1
            self.assertEqual(told[0] == "alike", alike_slowly(one, other))
            self.assertEqual(told[0] == "alike", least_of(one) == least_of(other))
            if told[0] == "apart":
                most = sum(max(room[0] for room in plain[1]) for plain in (one, other))
                self.assertLessEqual(len({name for sign, name in told[1]}), most + 1)
                self.assertNotEqual(let_slowly(one, told[1]), let_slowly(other, told[1]))
        self.assertGreater(min(many), 30)


class LeastTest(unittest.TestCase):
    def test_it_is_least(self):
        folded = 0
        for number in range(150):
            plain = drawn_plain(number, rooms=1 + number % 6)
            least = least_of(plain)
            folded += len(least[1]) < len(plain[1])
            self.assertTrue(is_plain(least))
            self.assertTrue(alike_slowly(plain, least))
            self.assertLessEqual(len(least[1]), len(plain[1]))
            self.assertEqual(matters(least), [list(range(room[0])) for room in least[1]])
            self.assertEqual(least_of(least), least)
        self.assertGreater(folded, 30)

    def test_it_is_one_for_all_ways_to_the_same_rows(self):
        """What is turned twice, joined with itself, and joined with what turns it."""
        for number in range(60):
            plain = drawn_plain(number, rooms=2 + number % 3)
            least = least_of(plain)
            every, none = (["a", "b"], [(0, True, [[(0, ())], [(0, ())]])]), (["a", "b"], [(0, False, [[None], [None]])])
            self.assertEqual(least_of(turned(turned(plain))), least)
            for word, one, other, told in [
                ("both", plain, plain, least), ("either", plain, plain, least), ("first", plain, plain, none), ("one", plain, plain, none),
                ("both", plain, turned(plain), none), ("either", plain, turned(plain), every), ("one", plain, turned(plain), every),
                ("both", plain, every, least), ("either", none, plain, least), ("first", every, turned(plain), least),
                ("one", plain, none, least), ("one", every, plain, least_of(turned(plain))),
            ]:
                try:
                    self.assertEqual(least_of(joined(word, one, other)[0]), told)
                except TooGreat:
                    self.assertGreater(len(plain[1]), 2)


class JoinedTest(unittest.TestCase):
    def test_each_word(self):
        let = 0
        for number in range(60):
            one, other = drawn_plain(number, rooms=3), drawn_plain(number + 500, rooms=3)
            for word, good in GOOD_BY.items():
                plain = joined(word, one, other)[0]
                for row in drawn_rows(number, ["a", "b"], 12) + rows_of(["a", "b"], 2):
                    told = good(let_slowly(one, row), let_slowly(other, row))
                    let += told
                    self.assertIs(plain_lets(plain, row), told)
        self.assertGreater(let, 500)


class TablesTest(unittest.TestCase):
    def test_just_its_rows(self):
        for number in range(60):
            table = [
                [(sign, name % 3 * 10 ** 40 - 7) for sign, name in row] for row in drawn_rows(number, ["a", "b"], number % 11, 5)
            ]
            plain = plain_by(["a", "b"], table)
            for many in range(5):
                shapes = sorted({tuple(shape_of(row)) for row in table if len(row) == many})
                self.assertEqual(shapes_of(plain, many), [list(shape) for shape in shapes])
            for row in drawn_rows(number, ["a", "b"], 20, 6) + table:
                self.assertIs(plain_lets(plain, row), shape_of(row) in [shape_of(other) for other in table])
            if is_small(plain):
                self.assertEqual(compared(plain, least_of(plain))[0], "alike")


class DeskTest(unittest.TestCase):
    def test_what_it_answers_is_what_the_parts_tell(self):
        for number, machine in enumerate(SINGLES[:60]):
            desk = Desk()
            plain = plain_of(machine)[0]
            self.assertEqual(desk.say("keep a " + show_machine(machine)), "ok")
            for row in drawn_rows(number, machine[0], 5):
                self.assertEqual(desk.say("let a " + show_row(row)), "yes" if lets_by(machine, row) else "no")
            if is_small(plain):
                desk.say("least b a")
                self.assertEqual(desk.say("show b"), show_machine(machine_of(least_of(plain))))
                self.assertEqual(desk.say("same a b"), "yes")
            if is_small(turned(plain)):
                desk.say("turn c a")
                answer = desk.say("same a c")
                self.assertEqual(answer, "no -")
                self.assertEqual(read_row(answer[3:]), [])


if __name__ == "__main__":
    unittest.main()
