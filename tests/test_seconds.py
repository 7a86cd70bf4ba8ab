"""Section 18: second nets."""

import random
import unittest
from fractions import Fraction

from cordsatrest.errors import BadSecond, BadStress
from cordsatrest.flat import is_stress, lands, stress_basis
from cordsatrest.roofs import is_roof, roof_of, stress_of
from cordsatrest.seconds import is_second, roof_by, second_of, stress_by
from flats import (
    BARE, LOOSE, SMALL, TENT, TREE, creased_flats, expected_sides, full_flats, less, random_flats, stresses_of,
)
from support import drawn, exact, not_fractions, odd_values, refused, told

NONE, ONE = (0, 1), (1, 1)
STRESS = ((2, 1), ONE, ONE)
SECOND = ((NONE, NONE), ((-2, 1), (2, 1)), (ONE, (3, 1)))


def some_flats():
    return list(SMALL) + random_flats(70)[40:] + creased_flats(16)


def some_stresses(net):
    return stresses_of(net, stress_basis(net))


def shifted(second, way, times=1):
    """The second net times a number, and shifted."""
    return tuple(tuple(told(times * a + b) for a, b in zip(exact(spot), way)) for spot in second)


def turn_of_cord(net, cord):
    one, other = net.cords[cord]
    x, y = less(drawn(net)[other], drawn(net)[one])
    return [-y, x]


def difference(net, second, cord):
    """The left land's spot less the right land's."""
    left, right = expected_sides(net)[cord]
    return less(exact(second[left]), exact(second[right]))


def is_right(net, second):
    """Whether for each cord the difference is the cord's turn times a fraction."""
    for cord in range(len(net.cords)):
        (x, y), (p, q) = difference(net, second, cord), turn_of_cord(net, cord)
        if x * q != y * p:
            return False
    return True


class TestSeconds(unittest.TestCase):
    def test_second_of_and_stress_by(self):
        for net in some_flats():
            for stress in some_stresses(net):
                with self.subTest(net=net.text, stress=stress):
                    second = second_of(net, stress)
                    self.check_second(net, stress, second)
                    self.assertIs(is_second(net, second), True)
                    self.assertEqual(stress_by(net, second), stress)
                    contrary = tuple(tuple((-part[0], part[1]) for part in plane[:2]) for plane in roof_of(net, stress))
                    self.assertEqual(second, contrary)

    def check_second(self, net, stress, second):
        self.assertEqual(len(second), len(lands(net)))
        self.assertEqual(second[0], (NONE, NONE))
        for cord, part in enumerate(exact(stress)):
            self.assertEqual(difference(net, second, cord), [part * a for a in turn_of_cord(net, cord)])

    def test_shifted(self):
        way = (Fraction(-7, 3), Fraction(10 ** 11, 13))
        for net in some_flats():
            for stress in some_stresses(net):
                second = shifted(second_of(net, stress), way, Fraction(-2, 5))
                self.assertIs(is_second(net, second), True)
                found = stress_by(net, second)
                self.assertIs(is_stress(net, found), True)
                self.assertEqual(exact(found), [Fraction(-2, 5) * part for part in exact(stress)])
                self.assertEqual(shifted(second_of(net, found), exact(second[0])), second)

    def test_sums(self):
        for net in some_flats():
            for one, other in zip(some_stresses(net), some_stresses(net)[1:]):
                total = tuple(told(a + b) for a, b in zip(exact(one), exact(other)))
                rows = zip(second_of(net, one), second_of(net, other))
                added = tuple(tuple(told(a + b) for a, b in zip(exact(row), exact(far))) for row, far in rows)
                self.assertEqual(second_of(net, total), added)
                self.assertEqual(stress_by(net, added), total)

    def test_roof_by(self):
        way = (Fraction(-7, 3), Fraction(1, 13))
        for net in some_flats():
            for stress in some_stresses(net):
                second = shifted(second_of(net, stress), way)
                roof = roof_by(net, second)
                self.assertIs(is_roof(net, roof), True)
                self.assertEqual([plane[:2] for plane in roof], [tuple((-a, b) for a, b in spot) for spot in second])
                self.assertEqual(roof[0][2], NONE)
                self.assertEqual(stress_of(net, roof), stress)
                self.assertEqual(roof_by(net, second_of(net, stress)), roof_of(net, stress))

    def test_some(self):
        self.assertEqual(second_of(stress=STRESS, net=TENT), SECOND)
        self.assertEqual(stress_by(second=SECOND, net=TENT), STRESS)
        self.assertIs(is_second(value=SECOND, net=TENT), True)
        self.assertEqual(roof_by(second=SECOND, net=TENT), roof_of(TENT, STRESS))
        self.assertEqual(second_of(BARE, ()), ((NONE, NONE),))
        self.assertEqual(stress_by(BARE, ((ONE, (5, 7)),)), ())
        self.assertEqual(roof_by(BARE, ((ONE, (5, 7)),)), (((-1, 1), (-5, 7), NONE),))
        # a cord with one land at both sides has 0
        self.assertEqual(stress_by(LOOSE, ((ONE, ONE), (ONE, ONE))), (NONE, NONE, NONE))
        self.assertEqual(stress_by(TREE, ((ONE, ONE),)), (NONE,) * 5)

    def test_near_second_nets(self):
        for net in some_flats()[::2]:
            for stress in some_stresses(net)[1:2]:
                second = second_of(net, stress)
                for at, spot in enumerate(second):
                    for near in ((told(exact(spot)[0] + 1), spot[1]), (spot[0], told(exact(spot)[1] - Fraction(1, 3)))):
                        value = second[:at] + (near,) + second[at + 1:]
                        self.assertEqual(is_second(net, value), is_right(net, value))
                        if not is_right(net, value):
                            refused(self, BadSecond, value, stress_by, net, value)

    def test_any_numbers(self):
        chance = random.Random(4)
        right = 0
        for net in some_flats():
            for _ in range(5):
                value = tuple(tuple((chance.randint(-1, 1), 1) for _ in range(2)) for _ in lands(net))
                self.assertEqual(is_second(net, value), is_right(net, value))
                right += is_right(net, value)
        self.assertGreater(right, 5)

    def test_no_second(self):
        values = odd_values() + [
            SECOND[::-1], SECOND[:2], SECOND + SECOND[:1], list(SECOND), (list(SECOND[0]),) + SECOND[1:], (), (NONE,) * 3,
            ((NONE, NONE, NONE),) * 3, ((NONE,),) * 3, SECOND[:2] + ((ONE, (2, 1)),), SECOND[:2] + ((ONE, 3),), (SECOND,),
            ((NONE, NONE), (NONE, (2, 1)), (ONE, (3, 1))), STRESS,
        ] + [((NONE, part),) + SECOND[1:] for part in not_fractions()]
        for value in values:
            with self.subTest(value=value):
                self.assertIs(is_second(TENT, value), False)
                refused(self, BadSecond, value, stress_by, TENT, value)
                refused(self, BadSecond, value, roof_by, TENT, value)

    def test_no_stress(self):
        for value in odd_values() + [
            (ONE, ONE, ONE), [(2, 1), ONE, ONE], ((2, 1), ONE), STRESS + (NONE,), (), ((2, 1), ONE, 1), ((4, 2), ONE, ONE), SECOND,
        ] + [((2, 1), ONE, part) for part in not_fractions()]:
            with self.subTest(value=value):
                refused(self, BadStress, value, second_of, TENT, value)

    def test_each_at_bounds(self):
        for net in full_flats():
            for stress in stresses_of(net, stress_basis(net), 3):
                second = second_of(net, stress)
                self.check_second(net, stress, second)
                self.assertEqual(stress_by(net, second), stress)
                self.assertEqual(roof_by(net, second), roof_of(net, stress))


if __name__ == '__main__':
    unittest.main()
