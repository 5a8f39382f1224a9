"""The refusals: one base under ValueError, six classes side by side [2, interface]."""

import unittest

from hoopcord.errors import HoopError, NoBase, NoNumber, NoRow, NoShape, NoSpot, NoText

SIX = (NoText, NoNumber, NoSpot, NoBase, NoShape, NoRow)


class Errors(unittest.TestCase):
    def test_each_is_made_of_a_text_and_taken_by_its_own_name(self):
        for made in (HoopError,) + SIX:
            for words in ("", "no", "such a thing is not told"):
                with self.subTest(made=made.__name__, words=words):
                    with self.assertRaises(made) as caught:
                        raise made(words)
                    self.assertIs(type(caught.exception), made)

    def test_each_is_taken_by_hoop_error_and_by_value_error(self):
        for made in SIX:
            for base in (HoopError, ValueError):
                with self.subTest(made=made.__name__, base=base.__name__):
                    with self.assertRaises(base):
                        raise made("no")

    def test_the_base_is_taken_by_value_error(self):
        with self.assertRaises(ValueError):
            raise HoopError("no")

    def test_the_base_stands_right_under_value_error(self):
        self.assertEqual(HoopError.__bases__, (ValueError,))

    def test_none_of_the_six_takes_another_one_or_the_base(self):
        for taker in SIX:
            for made in SIX + (HoopError, ValueError):
                if made is not taker:
                    with self.subTest(taker=taker.__name__, made=made.__name__):
                        self.assertNotIsInstance(made("no"), taker)

    def test_the_six_are_six(self):
        self.assertEqual(len(set(SIX)), 6)
        self.assertEqual([made.__name__ for made in SIX], ["NoText", "NoNumber", "NoSpot", "NoBase", "NoShape", "NoRow"])


if __name__ == "__main__":
    unittest.main()
