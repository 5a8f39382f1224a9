"""Asking: a thing is told as it should be, the same again, or refused."""

import copy
import unittest

from hoopcord.errors import HoopError, NoBase, NoNumber, NoRow, NoShape, NoSpot, NoText
from samples import kinds_alike

SIX = (NoText, NoNumber, NoSpot, NoBase, NoShape, NoRow)


def spoil(told):
    """Change each list that is told."""
    if isinstance(told, list):
        told.append(7)
        told.reverse()


class AskCase(unittest.TestCase):
    def assert_told(self, told, ask, *handed):
        """This is told, again too, whatever is done to the list told first; nothing that is handed in changes."""
        with self.subTest(ask=ask.__name__, handed=str(handed)[:500]):
            kept = copy.deepcopy(handed)
            for asked in range(3):
                answer = ask(*handed)
                self.assertTrue(kinds_alike(answer, told), (str(answer)[:500], str(told)[:500]))
                spoil(answer)
            self.assertTrue(kinds_alike(handed, kept))

    def assert_refused(self, made, ask, *handed):
        """A refusal of this class alone."""
        with self.subTest(ask=ask.__name__, handed=str(handed)[:500]):
            kept = copy.deepcopy(handed)
            for taker in (made, HoopError, ValueError):
                with self.assertRaises(taker) as caught:
                    ask(*handed)
                self.assertIs(type(caught.exception), made)
            self.assertEqual([other for other in SIX if isinstance(caught.exception, other)], [made])
            self.assertTrue(kinds_alike(handed, kept))
