"""Whether a step fits, and what is held behind it [11]."""

import itertools
import unittest

from freshrooms.asks import filled, fits

HUGE = 10 ** 60 - 1


def asking(asks, sign="a"):
    return (sign, asks, 0, ())


def filling(*fills):
    return ("a", "any", 0, fills)


FITS = [
    ("fresh", (), 5, True),
    ("fresh", (None,), 5, True),
    ("fresh", (None, None, None), 0, True),
    ("fresh", (5,), 5, False),
    ("fresh", (5,), -5, True),
    ("fresh", (3, None, 5), 5, False),
    ("fresh", (3, 3, 3), 5, True),
    ("fresh", (5, 5), 5, False),
    ("fresh", (HUGE,), HUGE, False),
    ("fresh", (HUGE,), -HUGE, True),
    ("any", (), 5, True),
    ("any", (None,), 5, True),
    ("any", (5,), 5, True),
    ("any", (3,), 5, True),
    (0, (5,), 5, True),
    (0, (3,), 5, False),
    (0, (None,), 0, False),
    (0, (0,), 0, True),
    (0, (5, 3), 3, False),
    (1, (5, 3), 3, True),
    (1, (5, 3), 5, False),
    (0, (5, 5), 5, True),
    (1, (5, 5), 5, True),
    (2, (5, None, 5), 5, True),
    (1, (5, None, 5), 5, False),
    (2, (1, 2, HUGE), HUGE, True),
    (2, (1, 2, HUGE), HUGE - 1, False),
]

FILLED = [
    ((), (), 5, ()),
    ((), (1, 2, 3), 5, ()),
    (("new",), (), 5, (5,)),
    ((None,), (), 5, (None,)),
    (("new", None, "new"), (), 0, (0, None, 0)),
    ((0,), (7,), 5, (7,)),
    ((0,), (None,), 5, (None,)),
    ((0, 0, 0), (7,), 5, (7, 7, 7)),
    ((1, 0), (7, 8), 5, (8, 7)),
    ((2, "new", None), (7, 8, 9), 5, (9, 5, None)),
    ((0, 1, 2), (0, None, -1), 5, (0, None, -1)),
    ((0, 1), (7, 7), 7, (7, 7)),
    (("new", 0), (5,), 5, (5, 5)),
    (("new",), (HUGE,), -HUGE, (-HUGE,)),
]


class FitsTest(unittest.TestCase):
    def test_each_ask(self):
        for asks, kept, name, told in FITS:
            with self.subTest(asks=asks, kept=kept, name=name):
                self.assertIs(fits(asking(asks), kept, name), told)

    def test_all_keepers_of_up_to_three(self):
        for many in range(4):
            for kept in itertools.product([None, 0, 1, -1], repeat=many):
                for name in [0, 1, -1, 2]:
                    holding = [number for number in range(many) if kept[number] is not None and kept[number] == name]
                    self.assertIs(fits(asking("any"), kept, name), True)
                    self.assertIs(fits(asking("fresh"), kept, name), holding == [])
                    self.assertEqual([number for number in range(many) if fits(asking(number), kept, name)], holding)

    def test_the_sign_of_the_step_is_not_asked(self):
        for sign in ["a", "b", "fresh", "any", "zz"]:
            for asks, kept, name, told in FITS:
                self.assertIs(fits(asking(asks, sign), kept, name), told)

    def test_where_it_leads_and_what_it_fills_is_not_asked(self):
        for asks, kept, name, told in FITS:
            self.assertIs(fits(("a", asks, 7, (None, "new", None)), kept, name), told)


class FilledTest(unittest.TestCase):
    def test_each_fill(self):
        for fills, kept, name, told in FILLED:
            with self.subTest(fills=fills, kept=kept, name=name):
                self.assertEqual(filled(filling(*fills), kept, name), told)
                self.assertIs(type(filled(filling(*fills), kept, name)), tuple)

    def test_whether_it_fits_or_not_is_not_asked(self):
        for asks in ["fresh", "any", 0, 1]:
            self.assertEqual(filled(("a", asks, 3, (1, "new")), (5, 7), 5), (7, 5))
            self.assertEqual(filled(("b", asks, 0, (1, "new")), (5, None), 9), (None, 9))

    def test_equal_names_are_no_keepers_and_no_words(self):
        self.assertEqual(filled(filling(1, 0), (1, 0), 0), (0, 1))
        self.assertEqual(filled(filling("new", None), (5, 6), 0), (0, None))


if __name__ == "__main__":
    unittest.main()
