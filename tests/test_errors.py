"""The classes of the refusals [2]."""

import unittest

from freshrooms import errors

NAMES = ["NoExchange", "NoText", "NoMachine", "NoWay", "NotSingle", "NoFit", "TooGreat", "NoRow", "NoName"]


class ErrorsTest(unittest.TestCase):
    def test_the_root_stands_under_value_error(self):
        self.assertEqual(errors.RoomError.__bases__, (ValueError,))

    def test_each_refusal_stands_under_the_root(self):
        for name in NAMES:
            with self.subTest(name=name):
                self.assertTrue(issubclass(getattr(errors, name), errors.RoomError))
                self.assertTrue(issubclass(getattr(errors, name), ValueError))

    def test_no_refusal_stands_under_another_one(self):
        for name in NAMES:
            for other in NAMES:
                if name != other:
                    with self.subTest(name=name, other=other):
                        self.assertFalse(issubclass(getattr(errors, name), getattr(errors, other)))

    def test_each_can_be_raised_with_words(self):
        for name in NAMES:
            with self.subTest(name=name):
                with self.assertRaises(errors.RoomError) as caught:
                    raise getattr(errors, name)("some words")
                self.assertEqual(str(caught.exception), "some words")


if __name__ == "__main__":
    unittest.main()
