"""Machines written as lines and read again [2, 3, 9]."""

import copy
import re
import unittest

from freshrooms.errors import NoText
from freshrooms.machines import is_machine
from freshrooms.machtexts import read_machine, show_machine
from tests.samples import check_refused, lists_within, some_machines


def lines_of(*lines):
    return "\n".join(lines)


EXAMPLE = lines_of("signs a b", "room 0", "a fresh 1 new", "room 1 good", "b 0 1 0")

GREATEST = (["aaaaaaaa", "bbbbbbbb", "zzzzzzzz"], [
    (3, room % 2 == 0, [("bbbbbbbb", asks, 11 - room, (2, "new", None)) for asks in [0, 1, 2, "fresh", "any"] * 2])
    for room in range(12)
])

GREATEST_TEXT = lines_of("signs aaaaaaaa bbbbbbbb zzzzzzzz", *[
    line
    for room in range(12)
    for line in ["room 3 good" if room % 2 == 0 else "room 3"] + [
        f"bbbbbbbb {asks} {11 - room} 2 new none" for asks in "0 1 2 fresh any 0 1 2 fresh any".split()
    ]
])

THERE_AND_BACK = [
    (EXAMPLE, (["a", "b"], [(0, False, [("a", "fresh", 1, ("new",))]), (1, True, [("b", 0, 1, (0,))])])),
    ("signs a\nroom 0", (["a"], [(0, False, [])])),
    ("signs a\nroom 0 good", (["a"], [(0, True, [])])),
    ("signs a b c\nroom 3", (["a", "b", "c"], [(3, False, [])])),
    ("signs a aa abcdefgh\nroom 2 good", (["a", "aa", "abcdefgh"], [(2, True, [])])),
    ("signs a\nroom 0\na any 0", (["a"], [(0, False, [("a", "any", 0, ())])])),
    ("signs a\nroom 0\na any 0\na any 0\na fresh 0",
     (["a"], [(0, False, [("a", "any", 0, ()), ("a", "any", 0, ()), ("a", "fresh", 0, ())])])),
    ("signs a\nroom 3\na 2 0 none 0 new\na 0 0 2 1 0",
     (["a"], [(3, False, [("a", 2, 0, (None, 0, "new")), ("a", 0, 0, (2, 1, 0))])])),
    ("signs a\nroom 0\nroom 1\nroom 2 good\nroom 3", (["a"], [(0, False, []), (1, False, []), (2, True, []), (3, False, [])])),
    (lines_of("signs b", *["room 0"] * 11, "b any 11", "b any 10", "room 0 good"),
     (["b"], [(0, False, [])] * 10 + [(0, False, [("b", "any", 11, ()), ("b", "any", 10, ())]), (0, True, [])])),
    ("signs room\nroom 1\nroom 0 0 0\nroom any 0 none\nroom 1 good",
     (["room"], [(1, False, [("room", 0, 0, (0,)), ("room", "any", 0, (None,))]), (1, True, [])])),
    ("signs room\nroom 0\nroom fresh 1\nroom 0\nroom any 0",
     (["room"], [(0, False, [("room", "fresh", 1, ())]), (0, False, [("room", "any", 0, ())])])),
    ("signs fresh good none\nroom 1 good\ngood fresh 0 none\nfresh fresh 0 new\nnone 0 0 none",
     (["fresh", "good", "none"], [
         (1, True, [("good", "fresh", 0, (None,)), ("fresh", "fresh", 0, ("new",)), ("none", 0, 0, (None,))])])),
    ("signs any new signs\nroom 1\nsigns any 0 new\nany any 0 0\nnew 0 0 new",
     (["any", "new", "signs"], [
         (1, False, [("signs", "any", 0, ("new",)), ("any", "any", 0, (0,)), ("new", 0, 0, ("new",))])])),
    ("signs signs\nroom 0", (["signs"], [(0, False, [])])),
    (lines_of("signs a", "room 0", *["a any 0"] * 120), (["a"], [(0, False, [("a", "any", 0, ())] * 120)])),
    (lines_of("signs a", *["room 0"] * 12), (["a"], [(0, False, [])] * 12)),
    (GREATEST_TEXT, GREATEST),
]

NO_TEXTS = {
    "no lines": ["", " ", "\n", "\n\n", "-", "signs", "room 0", "a any 0", "signs\nroom 0", "machine"],
    "the line of the signs": [line + "\nroom 0" for line in [
        "", "a", "sign a", "Signs a", "signs:a", "signsa", "signs", "signs ", "signs  a", " signs a", "signs a ", "signs a  b",
        "signs b a", "signs a a", "signs a b c d", "signs a c b", "signs A", "signs a1", "signs 1", "signs a,b",
        "signs abcdefghi", "signs a\tb", "a b", "signs -",
    ]],
    "no rooms": ["signs a", "signs a\n", "signs a\na any 0", "signs a\nsigns a"],
    "a line left out": [
        lines_of("room 0", "a fresh 1 new", "room 1 good", "b 0 1 0"),
        lines_of("signs a b", "a fresh 1 new", "room 1 good", "b 0 1 0"),
        lines_of("signs a b", "room 0", "a fresh 1 new", "b 0 1 0"),
    ],
    "a line doubled": [
        lines_of("signs a b", "signs a b", "room 0", "a fresh 1 new", "room 1 good", "b 0 1 0"),
        lines_of("signs a b", "room 0", "room 0", "a fresh 1 new", "room 1 good", "b 0 1 0"),
    ],
    "a line exchanged with another one": [
        lines_of("room 0", "signs a b", "a fresh 1 new", "room 1 good", "b 0 1 0"),
        lines_of("signs a b", "a fresh 1 new", "room 0", "room 1 good", "b 0 1 0"),
        lines_of("signs a b", "room 1 good", "a fresh 1 new", "room 0", "b 0 1 0"),
        lines_of("signs a b", "room 0", "b 0 1 0", "room 1 good", "a fresh 1 new"),
    ],
    "line ends": [
        EXAMPLE + "\n", "\n" + EXAMPLE, EXAMPLE + "\n\n", EXAMPLE.replace("\n", "\n\n"), EXAMPLE.replace("\n", "\n\n", 1),
        EXAMPLE.replace("\n", " "), EXAMPLE.replace("\n", "", 1), EXAMPLE.replace("\n", "\r\n"), EXAMPLE.replace("\n", "\r"),
        EXAMPLE.replace(" ", "\n"), EXAMPLE.replace("\n", ";"),
    ],
    "blanks": [
        EXAMPLE.replace(" ", "  "), EXAMPLE + " ", " " + EXAMPLE, EXAMPLE.replace("\n", " \n"), EXAMPLE.replace("\n", "\n "),
        EXAMPLE.replace(" ", "\t"), EXAMPLE.replace(" ", ""), EXAMPLE.replace("b 0", "b  0"), EXAMPLE.replace(" good", "  good"),
        EXAMPLE.replace("good", "good "), EXAMPLE.replace("room 0", "room 0 "), EXAMPLE.replace("room 0", " room 0"),
        EXAMPLE.replace("fresh 1", "fresh  1"), EXAMPLE.replace("1 new", "1  new"), EXAMPLE.replace("new", "new "),
    ],
    "the line of a room": ["signs a\n" + line for line in [
        "room", "room ", "room good", "room  good", "room 0 0", "room 0 bad", "room 0 Good", "room 0 good good", "room 0 good 0",
        "room 4", "room 10", "room 12", "room -1", "room -0", "room +1", "room 00", "room 01", "room 0_1", "room 1.0", "room a",
        "room none", "room any", "room fresh", "room any good", "Room 0", "rooms 0", "good 0", "room0", "0", "room 0 true",
        "room 0,good", "room " + "1" * 8000, "room " + "0" * 8000, "room \u0663", "room \u00b2",
    ]],
    "the line of a step": ["signs a b\nroom 2\n" + line + "\nroom 0\nroom 3" for line in [
        "", "a", "a ", "a any", "a any ", "c any 1", "ab any 1", "any 1", "A any 1", "1 any 1", "room any 1", "signs any 1",
        "a 2 1", "a -1 1", "a -0 1", "a +0 1", "a +1 1", "a 00 1", "a 01 1", "a Any 1", "a none 1", "a new 1", "a None 1",
        "a all 1", "a f 1", "a  1", "a any 3", "a any -1", "a any +1", "a any 01", "a any 11", "a any any", "a any none",
        "a any good", "a any room", "a any  1", "a any 1 ", " a any 1", "a any 1_0", "a any 1.0", "a any 1 0", "a any 1 none",
        "a any 1 new", "a any 0", "a any 0 0", "a any 0 0 ", "a any 0 0 0 0", "a any 0 0  0", "a any 2 0 0", "a any 2 0 0 0 0",
        "a any 0 0 2", "a any 0 2 0", "a any 0 0 -1", "a any 0 0 -0", "a any 0 0 +1", "a any 0 0 00", "a any 0 0 01",
        "a any 0 0 None", "a any 0 0 New", "a any 0 0 fresh", "a any 0 0 any", "a any 0 0 good", "a any 0 none0 1",
        "a any 0 0,1", "a any 0 0 \u0661", "a \u0661 1", "a any \u0661", "a " + "1" * 8000 + " 1", "a any " + "1" * 8000,
        "a any 0 0 " + "1" * 8000, "a any " + "0" * 8000, "a any 1 \n", "any a 1", "1 a any", "a 1 any", "a: any 1",
    ]],
    "keepers that are not there": [
        "signs a\nroom 0\na 0 0", "signs a\nroom 1\na 1 0 0", "signs a\nroom 0\na any 1 0\nroom 1", "signs a\nroom 1\na any 0 1",
    ],
    "too many rooms": [
        lines_of("signs a", *["room 0"] * 13), lines_of("signs a", *["room 0 good"] * 200),
        lines_of("signs a", *["room 0"] * 12, "a any 12", "room 0"), lines_of("signs a", *["room 0"] * 12, "a any 12"),
    ],
    "too many steps": [
        lines_of("signs a", "room 0", *["a any 0"] * 121), lines_of("signs a", *["room 0", *["a any 0"] * 11] * 11),
        lines_of("signs a", "room 0", *["a any 0"] * 60, "room 0", *["a any 0"] * 61),
        lines_of("signs a", "room 0", *["a any 0"] * 1000),
    ],
    "signs called like words": [
        "signs room\nroom 0\nroom 0 0", "signs room\nroom 1\nroom 0 good 0", "signs room\nroom any 0", "signs room\nroom room 0",
        "signs good room\nroom 0\ngood any good", "signs good\nroom 0\ngood", "signs good\nroom 0 good good",
        "signs none signs room\nroom 0",
    ],
}

SIGNS_LINE = re.compile("signs(?: [a-z]{1,8}){1,3}")
ROOM_LINE = re.compile("room ([0-3])(?: good)?")
STEP_LINE = re.compile("([a-z]{1,8}) (fresh|any|[0-2]) ([0-9]|1[01])((?: (?:[0-2]|new|none))*)")


def is_written(text):
    """Told apart from the program: line by line, and then number by number."""
    lines = text.split("\n")
    rooms = [ROOM_LINE.fullmatch(line) for line in lines]
    if not SIGNS_LINE.fullmatch(lines[0]) or len(lines) < 2 or not rooms[1]:
        return False
    signs = lines[0].split()[1:]
    keepers = [int(room[1]) for room in rooms if room]
    if signs != sorted(set(signs)) or len(keepers) > 12 or len(lines) - 1 - len(keepers) > 120:
        return False
    own = None
    for line, room in list(zip(lines, rooms))[1:]:
        if room:
            own = int(room[1])
        elif not is_step_written(STEP_LINE.fullmatch(line), signs, own, keepers):
            return False
    return True


def is_step_written(step, signs, own, keepers):
    if not step or step[1] not in signs or int(step[3]) >= len(keepers):
        return False
    fills = step[4].split()
    numbers = [int(word) for word in [step[2]] + fills if word.isdigit()]
    return len(fills) == keepers[int(step[3])] and all(number < own for number in numbers)


def spoiled_lines(text):
    """Each line left out, doubled, and exchanged with each other one; an empty line in each place."""
    lines = text.split("\n")
    for place in range(len(lines)):
        yield lines_of(*lines[:place], *lines[place + 1:])
        yield lines_of(*lines[:place], lines[place], *lines[place:])
        yield lines_of(*lines[:place], "", *lines[place:])
        for other in range(place):
            exchanged = list(lines)
            exchanged[place], exchanged[other] = lines[other], lines[place]
            yield lines_of(*exchanged)


def spoiled_words(text):
    """Each word left out, doubled, and replaced by each of some others."""
    words = re.split("([ \n])", text)
    for place in range(0, len(words), 2):
        yield "".join(words[:place] + words[place + 1:])
        yield "".join(words[:place] + words[place + 2:])
        yield "".join(words[:max(place - 1, 0)] + words[place + 1:])
        for other in [words[place] + " " + words[place], *"0 1 2 3 4 11 12 00 01 -1 +1 a b c fresh any new none good room signs".split()]:
            yield "".join(words[:place] + [other] + words[place + 1:])


def spoiled_signs(text):
    """Each sign left out and replaced by, or put behind, each of some others."""
    for place in range(len(text)):
        yield text[:place] + text[place + 1:]
        for other in " \n0129-+abcAny_,":
            yield text[:place] + other + text[place + 1:]
            yield text[:place] + other + text[place:]


class MachTextsTest(unittest.TestCase):
    def check_text(self, text):
        if is_written(text):
            told = read_machine(text)
            self.assertTrue(is_machine(told))
            self.assertEqual(show_machine(told), text)
        else:
            self.assertRaises(NoText, read_machine, text)

    def test_written(self):
        for text, machine in THERE_AND_BACK:
            with self.subTest(text=text[:60]):
                self.assertEqual(show_machine(machine), text)

    def test_read(self):
        for text, machine in THERE_AND_BACK:
            with self.subTest(text=text[:60]):
                self.assertEqual(read_machine(text), machine)

    def test_all_sorts_there_and_back(self):
        for machine in some_machines(300):
            text = show_machine(machine)
            self.assertTrue(is_written(text))
            self.assertEqual(read_machine(text), machine)

    def test_other_texts_are_refused(self):
        for part, texts in NO_TEXTS.items():
            for text in texts:
                with self.subTest(part=part, text=text[:100]):
                    check_refused(self, NoText, read_machine, text)

    def test_texts_spoiled_in_each_line(self):
        for text, machine in THERE_AND_BACK[:-1]:
            if len(machine[1]) < 12 and len(text) < 200:
                for spoiled in spoiled_lines(text):
                    self.check_text(spoiled)

    def test_texts_spoiled_in_each_word(self):
        for text, machine in THERE_AND_BACK:
            if len(text) < 200:
                for spoiled in spoiled_words(text):
                    self.check_text(spoiled)

    def test_texts_spoiled_in_each_sign(self):
        for text, machine in THERE_AND_BACK:
            if len(text) < 120:
                for spoiled in spoiled_signs(text):
                    self.check_text(spoiled)

    def test_the_greatest_one_spoiled_in_each_line(self):
        for spoiled in [GREATEST_TEXT + "\nbbbbbbbb any 0 0 0 0", GREATEST_TEXT + "\nroom 3", GREATEST_TEXT + "\n"]:
            check_refused(self, NoText, read_machine, spoiled)

    def test_a_machine_somewhat_beyond_the_bounds_is_written_all_the_same(self):
        self.assertEqual(show_machine((["a", "b", "c", "d"], [(4, True, [("d", 3, 0, (3, None, "new", 0))])] * 13)),
                         lines_of("signs a b c d", *["room 4 good", "d 3 0 3 none new 0"] * 13))

    def test_the_kinds_of_what_is_read(self):
        told = read_machine(GREATEST_TEXT)
        self.assertEqual([type(told)] + [type(part) for part in told], [tuple, list, list])
        for room in told[1]:
            self.assertEqual([type(room)] + [type(part) for part in room], [tuple, int, bool, list])
            for step in room[2]:
                self.assertEqual([type(step), type(step[2]), type(step[3])], [tuple, int, tuple])

    def test_what_is_handed_in_stays_as_it_was(self):
        for text, machine in THERE_AND_BACK:
            kept = copy.deepcopy(machine)
            show_machine(machine)
            self.assertEqual(machine, kept)

    def test_what_is_told_is_the_askers_own(self):
        for text, machine in THERE_AND_BACK:
            told = lists_within(read_machine(text))
            self.assertEqual(len({id(held) for held in told}), len(told))
            for held in told:
                held.clear()
            self.assertEqual(read_machine(text), machine)

    def test_what_is_done_afterwards_changes_nothing(self):
        machine = read_machine(EXAMPLE)
        self.assertEqual(show_machine(machine), EXAMPLE)
        machine[1][0][2].clear()
        self.assertEqual(show_machine(machine), EXAMPLE.replace("a fresh 1 new\n", ""))


if __name__ == "__main__":
    unittest.main()
