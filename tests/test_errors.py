"""The errors of the package."""

import unittest

from cordsatrest import errors
from cordsatrest.nets import Net
from support import nested, odd_values

NAMES = (
    'BadNet NoName NoCord BadPlacement BadShare BadMoves BadStep BadPulls BadWeighed BadHeld TooWide NoRing NotHung '
    'NotBalanced BadRows BadMore BadLack BadDirection NoLine BadWay Adrift TooFine Met NotHeld Beyond TooMany Weighed '
    'NotStraight Tied BadTable BadKept Together Unlike NotFlat BadSpot BadStress BadRoof BadSecond BadSites BadPlace '
    'BadWeight NoPeg Last NothingToUndo NothingToRedo NoTrial BadJournal BadWords'
).split()


class TestErrors(unittest.TestCase):
    def test_all_derive_directly_from_rest_error(self):
        self.assertEqual(errors.RestError.__bases__, (ValueError,))
        for name in NAMES:
            with self.subTest(name):
                self.assertEqual(getattr(errors, name).__bases__, (errors.RestError,))

    def test_all_keep_any_value(self):
        for name in NAMES + ['RestError']:
            for value in odd_values() + [nested(30), errors.NoTrial(None)]:
                with self.subTest(name=name, value=value):
                    self.assertIs(getattr(errors, name)(value).value, value)

    def test_they_are_caught_as_value_errors(self):
        for name in NAMES:
            with self.subTest(name), self.assertRaises(ValueError):
                raise getattr(errors, name)(1)

    def test_the_value_is_the_only_argument(self):
        for name in NAMES + ['RestError']:
            with self.subTest(name):
                self.assertRaises(TypeError, getattr(errors, name))
                self.assertRaises(TypeError, getattr(errors, name), 1, 2)

    def test_a_refused_net_tells_its_line(self):
        with self.assertRaises(errors.BadNet) as caught:
            Net('net 1\npeg a 0\nring b')
        self.assertEqual(caught.exception.value, 3)


if __name__ == '__main__':
    unittest.main()
