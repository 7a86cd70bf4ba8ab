"""Section 6: what pulls leave over, pulls that balance beside held names, and the least ones of them."""

import random
import unittest
from fractions import Fraction
from math import gcd

from cordsatrest.errors import BadHeld, BadPulls, BadWeighed, TooWide
from cordsatrest.nets import Net
from cordsatrest.pulls import least_rows, left_over, pulled, shows_pulled
from cordsatrest.rounds import rounds
from support import (
    NONE, ONE, PEGS, RINGS, bound_net, columns_of, exact, grid_net, knit_nets, least_sets, net_of, not_fractions,
    odd_values, pulled_cords, pulls_at, random_net, random_nets, refused, stairs, told, weights,
)

# r straight between a and b, s straight between r and c
LINE = net_of(
    'net 2', 'peg a 0 0', 'peg b 4 0', 'peg c 2 4', 'ring r 2 0 0 0', 'ring s 2 2 0 -1',
    'cord a r', 'cord r b', 'cord r s', 'cord s c',
)
BARE = net_of('net 2', 'peg a 0 0')
LOOSE = net_of('net 2', 'peg a 0 0', 'ring q 1 0 1/2 -3', 'ring r 1 0 0 0')


def wheel(cords, pegs=12):
    """A ring in the midst of pegs that lie around it, tied to so many of them."""
    ways = [(2, 0), (2, 1), (1, 2), (0, 2), (-1, 2), (-2, 1), (-2, 0), (-2, -1), (-1, -2), (0, -2), (1, -2), (2, -1),
            (3, 1), (1, 3), (-3, 1), (-1, 3)]
    lines = ['peg {} {} {}'.format(name, *way) for name, way in zip(PEGS[:pegs], ways)]
    return net_of('net 2', *lines, 'ring q 0 0 0 0', *['cord q {}'.format(name) for name in PEGS[:cords]])


def wide(cords, loops):
    """A ring q with so many cords to pegs, and another one z with so many of its own."""
    net = wheel(cords, 16).text.split('\n')
    lines = net[:17] + ['ring q 0 0 0 0', 'ring z 7 7 0 0'] + net[18:]
    return net_of(*lines, *['cord {} z'.format(name) for name in PEGS[:loops]])


class TestLeftOver(unittest.TestCase):
    def test_by_the_words(self):
        chance = random.Random(3)
        for net in random_nets(40) + knit_nets(20):
            pulls = tuple(told(Fraction(chance.randint(0, 5), chance.randint(1, 4))) for _ in net.cords)
            plain, heavy = left_over(net, pulls, False), left_over(net, pulls, True)
            self.assertEqual([exact(row) for row in plain], [pulls_at(net, pulls, ring) for ring in net.rings])
            for ring, row, more in zip(net.rings, plain, heavy):
                weight = weights(net)[ring]
                self.assertEqual(exact(more), [a + b for a, b in zip(exact(row), weight)])

    def test_weighed_or_not(self):
        pulls = (ONE, ONE, NONE, (1, 2))
        self.assertEqual(left_over(LINE, pulls, False), ((NONE, NONE), (NONE, ONE)))
        self.assertEqual(left_over(LINE, pulls, True), ((NONE, NONE), (NONE, NONE)))

    def test_no_cord_and_no_ring(self):
        for weighed in (False, True):
            self.assertEqual(left_over(BARE, (), weighed), ())
        self.assertEqual(left_over(LOOSE, (), False), ((NONE, NONE), (NONE, NONE)))
        self.assertEqual(left_over(LOOSE, (), True), (((1, 2), (-3, 1)), (NONE, NONE)))
        refused(self, BadPulls, (NONE,), left_over, BARE, (NONE,), True)

    def test_balanced_pulls_are_those_of_rounds(self):
        for net in [stairs(1), LINE, grid_net(2)]:
            row, rings = rounds(net)[0]
            for ring, left in zip(net.rings, left_over(net, row, False)):
                self.assertEqual(left, (NONE,) * net.coords)

    def test_bad_pulls(self):
        for value in odd_values() + [(ONE,) * 3, (ONE,) * 5, (), [ONE] * 4, (ONE, ONE, ONE, (-1, 1)), (ONE, [1, 1], ONE, ONE),
                                     ((-1, 2), ONE, ONE, ONE), (1, 1, 1, 1), ((ONE,) * 4,)]:
            with self.subTest(value=value):
                refused(self, BadPulls, value, left_over, LINE, value, True)
                refused(self, BadPulls, value, left_over, weighed=None, pulls=value, net=LINE)
        for part in not_fractions():
            value = (ONE, ONE, part, ONE)
            refused(self, BadPulls, value, left_over, LINE, value, False)

    def test_bad_weighed(self):
        for value in odd_values() + [0, 1, (1, 1), 'True', (True,), [False]]:
            if not isinstance(value, bool):
                with self.subTest(value=value):
                    refused(self, BadWeighed, value, left_over, LINE, (ONE,) * 4, value)


class TestPulled(unittest.TestCase):
    def check(self, net, held):
        free = [ring for ring in net.rings if ring not in held]
        pulls = pulled(net, held)
        self.assertEqual({cord for cord, pull in enumerate(pulls) if pull[0] > 0}, pulled_cords(net, free))
        self.assertTrue(all(pull[0] >= 0 for pull in pulls))
        for ring in free:
            self.assertEqual(pulls_at(net, pulls, ring), [0] * net.coords)
        self.assertIs(shows_pulled(net, held, pulls), True)
        twice = tuple(told(2 * part) for part in exact(pulls))
        self.assertIs(shows_pulled(net, held, twice), True)
        none = (NONE,) * len(net.cords)
        self.assertIs(shows_pulled(net, held, none), pulls == none)
        for cord in range(len(pulls)):
            near = tuple(told(part + (at == cord)) for at, part in enumerate(exact(pulls)))
            right = pulls[cord][0] > 0 and not any(any(pulls_at(net, near, ring)) for ring in free)
            self.assertIs(shows_pulled(net, held, near), right)

    def test_by_the_words(self):
        for net in random_nets(30, 7) + knit_nets(50, 8):
            for number in {0, 1, len(net) // 2, len(net)}:
                for held in {net.rings[:number], net.rings[number:], net.rings[::2]}:
                    with self.subTest(net=net.text, held=held):
                        self.check(net, held)

    def test_held_names_stand_fast(self):
        for held, cords in (((), {0, 1}), (('r',), {2, 3}), (('s',), {0, 1}), (('r', 's'), set())):
            pulls = pulled(LINE, held)
            self.assertEqual({cord for cord, pull in enumerate(pulls) if pull[0] > 0}, cords)

    def test_held_names_of_the_rounds_behind_one_another(self):
        net = stairs(4)
        for number, (pulls, rings) in enumerate(rounds(net)):
            self.assertIs(shows_pulled(net, net.rings[:number], pulls), True)
            self.assertIs(shows_pulled(net, net.rings[:number + 1], pulls), False)

    def test_cords_that_are_not_free_are_at_0(self):
        self.assertIs(shows_pulled(LINE, ('r',), (ONE, ONE, ONE, ONE)), False)
        self.assertIs(shows_pulled(LINE, ('r',), (NONE, NONE, ONE, ONE)), True)
        self.assertIs(shows_pulled(LINE, ('r',), (NONE, NONE, (3, 7), (3, 7))), True)
        self.assertIs(shows_pulled(LINE, ('r', 's'), (NONE,) * 4), True)

    def test_no_cord_and_no_ring(self):
        for net in (BARE, LOOSE):
            self.assertEqual(pulled(net, ()), ())
            self.assertIs(shows_pulled(net, (), ()), True)
            self.assertIs(shows_pulled(net, (), (NONE,)), False)
            self.assertIs(shows_pulled(net, (), []), False)

    def test_bad_held(self):
        for value in odd_values() + [('s', 'r'), ('r', 'r'), ('r', 's', 's'), ('a',), ('a', 'r'), ['r'], ['r', 's'],
                                     ('r', 'z'), 'r', 'rs', ('R',), (('r',),), (0,), (True,), {'r': True}, ('r', None)]:
            for call in (pulled, least_rows):
                with self.subTest(value=value, call=call):
                    refused(self, BadHeld, value, call, LINE, value)
                    refused(self, BadHeld, value, call, held=value, net=LINE)
            refused(self, BadHeld, value, shows_pulled, LINE, value, (NONE,) * 4)
            refused(self, BadHeld, value, shows_pulled, value=None, held=value, net=LINE)
        refused(self, BadHeld, ('r',), pulled, BARE, ('r',))

    def test_shows_any_value(self):
        good = pulled(LINE, ())
        for value in odd_values() + not_fractions() + [list(good), good[:3], good + (NONE,), (good,)]:
            self.assertIs(shows_pulled(LINE, (), value), False)
        for part in not_fractions():
            self.assertIs(shows_pulled(LINE, (), (ONE, ONE, part, NONE)), False)
            self.assertIs(shows_pulled(LINE, (), (part, part, NONE, NONE)), False)
        self.assertIs(shows_pulled(LINE, (), ((-1, 1), (-1, 1), NONE, NONE)), False)

    def test_weights_do_not_count(self):
        heavy = Net(LINE.text.replace('ring r 2 0 0 0', 'ring r 2 0 5 -7'))
        for held in ((), ('r',), ('s',)):
            self.assertEqual(pulled(heavy, held), pulled(LINE, held))
            self.assertEqual(least_rows(heavy, held), least_rows(LINE, held))


class TestLeastRows(unittest.TestCase):
    def check(self, net, held):
        free = [ring for ring in net.rings if ring not in held]
        own = least_rows(net, held)
        expected = []
        for row in least_sets(columns_of(net, [(ring,) for ring in free])):
            bottom = 1
            for part in row.values():
                bottom = bottom * part.denominator // gcd(bottom, part.denominator)
            tops = [int(row.get(cord, 0) * bottom) for cord in range(len(net.cords))]
            expected.append(tuple((top // gcd(*tops), 1) for top in tops))
        self.assertEqual(own, tuple(sorted(expected)))
        pulls = pulled(net, held)
        above = [any(row[cord][0] > 0 for row in own) for cord in range(len(net.cords))]
        self.assertEqual([pull[0] > 0 for pull in pulls], above)

    def test_by_the_words(self):
        most = 0
        for net in random_nets(40, 7) + knit_nets(60, 8):
            for held in {(), net.rings[:1], net.rings[1:], net.rings}:
                with self.subTest(net=net.text, held=held):
                    self.check(net, held)
                    most = max(most, len(least_rows(net, held)))
        self.assertGreater(most, 3)

    def test_many_around_one_ring(self):
        for cords in (2, 3, 5, 7, 8):
            self.check(wheel(cords), ())
            self.check(wheel(cords), ('q',))
        self.assertEqual(least_rows(wheel(12), ('q',)), ())

    def check_shape(self, net, held, rows):
        free = [ring for ring in net.rings if ring not in held]
        self.assertEqual(list(rows), sorted(set(rows)))
        sets = [{cord for cord, part in enumerate(row) if part[0] > 0} for row in rows]
        for row in rows:
            self.assertEqual(len(row), len(net.cords))
            self.assertTrue(all(bottom == 1 and top >= 0 for top, bottom in row))
            self.assertEqual(gcd(*[top for top, _ in row]), 1)
            for ring in free:
                self.assertEqual(pulls_at(net, row, ring), [0] * net.coords)
        for one in sets:
            self.assertEqual([other for other in sets if other <= one], [one])

    def test_twelve_free_cords_and_thirteen(self):
        rows = least_rows(wheel(12), ())
        self.assertGreater(len(rows), 40)
        self.check_shape(wheel(12), (), rows)
        refused(self, TooWide, 13, least_rows, wheel(13, 16), ())
        self.assertEqual(least_rows(wheel(13, 16), ('q',)), ())
        # a cord within what is held, and one that ties it to what is free
        mixed = wide(12, 1)
        self.assertEqual(len(mixed.cords), 13)
        self.check_shape(mixed, ('z',), least_rows(mixed, ('z',)))
        self.assertEqual(least_rows(mixed, ('q',)), ())
        refused(self, TooWide, 13, least_rows, mixed, ())
        refused(self, TooWide, 20, least_rows, wide(12, 8), ())
        self.check_shape(wide(12, 8), ('z',), least_rows(wide(12, 8), ('z',)))

    def test_bad_held_stands_ahead_of_too_wide(self):
        refused(self, BadHeld, ('z', 'q'), least_rows, wide(12, 8), ('z', 'q'))
        refused(self, BadHeld, None, least_rows, wide(12, 8), None)

    def test_no_cord_and_no_ring(self):
        for net in (BARE, LOOSE):
            self.assertEqual(least_rows(net, ()), ())
        self.assertEqual(least_rows(LOOSE, ('q', 'r')), ())

    def test_whole_numbers_of_fractions(self):
        net = net_of('net 1', 'peg a 1/60', 'peg b 7/12', 'ring q 1/5 1', 'cord a q', 'cord q b')
        self.assertEqual(least_rows(net, ()), (((23, 1), (11, 1)),))
        net = net_of('net 1', 'peg a 0', 'peg b 6', 'ring q 2 1', 'ring r 4 0', 'cord a q', 'cord q r', 'cord r b')
        self.assertEqual(least_rows(net, ()), ((ONE, ONE, ONE),))

    def test_at_bounds(self):
        chance = random.Random(2)
        for coords in (1, 2, 3):
            for make in (bound_net, grid_net):
                net = make(coords)
                self.assertEqual(len(pulled(net, ())), 20)
                self.assertEqual(left_over(net, (NONE,) * 20, False), ((NONE,) * coords,) * 8)
                for number in range(9):
                    held = net.rings[number:]
                    self.assertIs(shows_pulled(net, held, pulled(net, held)), True)
                refused(self, TooWide, 20, least_rows, net, ())
            for rings in range(1, 9):
                net = random_net(chance, coords, 16, rings, 12, fine=rings % 2 == 0)
                self.check_shape(net, (), least_rows(net, ()))
            held = grid_net(coords).rings[:5]
            self.check_shape(grid_net(coords), held, least_rows(grid_net(coords), held))


if __name__ == '__main__':
    unittest.main()
