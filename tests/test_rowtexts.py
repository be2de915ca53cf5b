"""Rows written and read [3, 7]."""

import copy
import itertools
import re
import unittest

from freshrooms.errors import NoText, RoomError
from freshrooms.rowtexts import read_row, show_row

GREATEST = 10 ** 60 - 1

PART = "[a-z]{1,8}:(?:0|-?[1-9][0-9]{0,59})"
WRITTEN = re.compile(f"-|{PART}(?: {PART}){{0,59}}")

THERE_AND_BACK = [
    ("-", []),
    ("a:0", [("a", 0)]),
    ("a:1", [("a", 1)]),
    ("a:-1", [("a", -1)]),
    ("a:10 b:-20 a:10", [("a", 10), ("b", -20), ("a", 10)]),
    ("abcdefgh:7", [("abcdefgh", 7)]),
    ("room:100", [("room", 100)]),
    ("a:" + "9" * 60, [("a", GREATEST)]),
    ("a:-" + "9" * 60, [("a", -GREATEST)]),
    ("a:1" + "0" * 59, [("a", 10 ** 59)]),
    (" ".join(["a:5"] * 60), [("a", 5)] * 60),
    (" ".join(["abcdefgh:-" + "9" * 60] * 60), [("abcdefgh", -GREATEST)] * 60),
]

NO_TEXTS = [
    "", " ", "  ", "\n", "--", "- ", " -", "-\n", "\n-", "- -", "- a:1", "a:1 -",
    "a", "a:", ":1", ":", "a:1:", "a::1", "a:1:2", "a 1", "a: 1", "a :1", "1:a", "1:1",
    "a:00", "a:01", "a:-01", "a:-00", "a:-0", "a:+1", "a:+0", "a:1_0", "a:_1", "a:1_", "a:--1", "a:-", "a:- 1", "a:1-",
    "a:1.0", "a:1e3", "a:0x1", "a:None", "a:True", "a:b", "a:\u0663", "a:\u00b2",
    "a:1  b:2", "a:1   b:2", " a:1", "a:1 ", " a:1 b:2", "a:1 b:2 ",
    "a:1\n", "\na:1", "a:1\nb:2", "a:1\n b:2", "a:1 \nb:2", "a\n:1", "a:\n1", "a:1\t", "a:1\tb:2",
    "a:1,b:2", "a:1;b:2", "a:1 b", "a:1 b:", "a:1 b:01",
    "A:1", "aB:1", "a1:1", "a-b:1", "abcdefghi:1",
    "a:" + "9" * 61, "a:-" + "9" * 61, "a:1" + "0" * 60, "a:" + "0" * 60, "a:0" + "1" * 59, "a:" + "1" * 8990,
    " ".join(["a:5"] * 61), " ".join(["a:5"] * 2200),
]


class RowTextsTest(unittest.TestCase):
    def test_written(self):
        for text, row in THERE_AND_BACK:
            with self.subTest(text=text[:20]):
                self.assertEqual(show_row(row), text)

    def test_read(self):
        for text, row in THERE_AND_BACK:
            with self.subTest(text=text[:20]):
                self.assertEqual(read_row(text), row)

    def test_other_texts_are_refused(self):
        for text in NO_TEXTS:
            with self.subTest(text=text[:20]):
                with self.assertRaises(NoText) as caught:
                    read_row(text)
                self.assertIsInstance(caught.exception, RoomError)

    def test_all_short_texts(self):
        for many in range(6):
            for signs in itertools.product("a:-01 \n", repeat=many):
                text = "".join(signs)
                if WRITTEN.fullmatch(text):
                    self.assertEqual(show_row(read_row(text)), text)
                else:
                    self.assertRaises(NoText, read_row, text)

    def test_each_sign_in_each_place(self):
        for place in range(8):
            for number in list(range(32, 127)) + [10]:
                text = "ab:1 c:-2"
                text = text[:place] + chr(number) + text[place + 1:]
                if WRITTEN.fullmatch(text):
                    self.assertEqual(show_row(read_row(text)), text)
                else:
                    self.assertRaises(NoText, read_row, text)

    def test_a_row_somewhat_beyond_the_bounds_is_written_all_the_same(self):
        self.assertEqual(show_row([("a", 1)] * 61), " ".join(["a:1"] * 61))
        self.assertEqual(show_row([("a", 10 ** 60)]), "a:1" + "0" * 60)

    def test_what_is_handed_in_stays_as_it_was(self):
        row = [("a", 5), ("b", -3)]
        kept = copy.deepcopy(row)
        show_row(row)
        self.assertEqual(row, kept)

    def test_what_is_told_is_the_askers_own(self):
        for text, row in THERE_AND_BACK:
            told = read_row(text)
            told.append(("z", 99))
            self.assertEqual(read_row(text), row)

    def test_a_row_read_is_a_list_of_tuples_of_a_text_and_a_whole_number(self):
        told = read_row("a:0 b:1")
        self.assertIs(type(told), list)
        for thing in told:
            self.assertIs(type(thing), tuple)
            self.assertEqual([type(part) for part in thing], [str, int])


if __name__ == "__main__":
    unittest.main()
