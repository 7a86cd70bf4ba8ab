"""Section 8: whether a net hangs as it is drawn, with papers for either."""

import unittest
from fractions import Fraction

from cordsatrest.hanging import does_hang, hangs, lower, shows_hangs
from cordsatrest.nets import Net
from cordsatrest.placements import is_placement, moved, picture, score
from cordsatrest.rounds import held
from support import (
    NONE, ONE, bound_net, drawn, exact, expected_bearing, expected_held, full_stairs, grid_net, hung_nets, knit_nets,
    net_of, not_fractions, odd_values, pulls_at, put, random_nets, square_between, told, weights,
)

# m straight between a and b, with a weight across; k hangs on m, j stands on k from above
LINE = net_of(
    'net 2', 'peg a 0 0', 'peg b 4 0', 'ring k 2 -2 0 -3', 'ring m 2 0 0 -1', 'ring j 2 -1 0 0',
    'cord a m', 'cord m b', 'cord m j', 'cord j k',
)
BORNE = (NONE, NONE, (3, 1), (3, 1))
# the same, but k draws upwards
RISING = Net(LINE.text.replace('ring k 2 -2 0 -3', 'ring k 2 -2 0 3'))
UP = (((NONE, (2, 1)), (NONE, NONE), (NONE, ONE)), (1, 4))
BARE = net_of('net 2', 'peg a 0 0')


class TestHangs(unittest.TestCase):
    def shows(self, net, value, right):
        with self.subTest(value=value):
            self.assertIs(shows_hangs(net, value), right)

    def check_pulls(self, net, told_pulls, stays):
        self.assertEqual(len(told_pulls), len(net.cords))
        for pull, ends in zip(told_pulls, net.cords):
            self.assertGreaterEqual(pull[0], 0)
            if all(end in net.pegs or end in stays for end in ends):
                self.assertEqual(pull, NONE)
        for ring in net.rings:
            if ring not in stays:
                left = [a + b for a, b in zip(pulls_at(net, told_pulls, ring), weights(net)[ring])]
                self.assertEqual(left, [0] * net.coords)
        self.assertIsNone(lower(net))
        self.assertIs(does_hang(net), True)
        for step in (NONE, ONE):
            self.shows(net, ('lower', ((NONE,) * net.coords,) * len(net), step), False)
        self.shows(net, ('lower', told_pulls), False)
        self.shows(net, ('pulls', told_pulls, ONE), False)
        for cord in range(len(net.cords)):
            near = tuple(told(part + Fraction(at == cord, 7)) for at, part in enumerate(exact(told_pulls)))
            # no pulls balance at these rings without weights: so a single pull is never more alone
            self.shows(net, ('pulls', near), False)

    def check_lower(self, net, moves, step, stays):
        rows = moved(net, moves, step)
        self.assertGreater(step[0], 0)
        for ring, row in zip(net.rings, moves):
            self.assertEqual(len(row), net.coords)
            if ring in stays:
                self.assertEqual(row, (NONE,) * net.coords)
        for one, other in net.cords:
            fast = all(end in net.pegs or end in stays for end in (one, other))
            less = square_between(drawn(net), one, other) - square_between(put(net, rows), one, other)
            self.assertTrue(less == 0 if fast else less > 0)
        self.assertEqual(lower(net), rows)
        self.assertIs(does_hang(net), False)
        self.assertIs(is_placement(net, rows), True)
        gain = Fraction(*score(net, rows)) - Fraction(*score(net, picture(net)))
        self.assertGreater(gain, 0)
        self.shows(net, ('lower', moves, NONE), False)
        self.shows(net, ('lower', moves, (-step[0], step[1])), False)
        back = tuple(tuple((-top, bottom) for top, bottom in row) for row in moves)
        self.shows(net, ('lower', back, step), False)
        self.shows(net, ('pulls', (NONE,) * len(net.cords)), False)
        if any(not all(end in net.pegs or end in stays for end in ends) for ends in net.cords):
            self.shows(net, ('lower', moves, told(Fraction(*step) * 10 ** 6)), False)
        self.shows(net, ('lower', moves, told(Fraction(*step) / 10 ** 6)), True)
        for ring in stays:
            at = net.rings.index(ring)
            near = moves[:at] + (((1, 10 ** 9),) + (NONE,) * (net.coords - 1),) + moves[at + 1:]
            self.shows(net, ('lower', near, step), False)

    def check(self, net, right):
        # by the words, where all sets of cords can be gone through
        own, stays = hangs(net), expected_held(net) if len(net.cords) < 10 else held(net)
        self.shows(net, own, True)
        self.shows(net, list(own), False)
        self.shows(net, own[::-1], False)
        self.assertEqual(own[0], 'pulls' if right else 'lower')
        self.assertEqual(len(own), 2 if right else 3)
        if right:
            self.check_pulls(net, own[1], stays)
        else:
            self.check_lower(net, *own[1:], stays)

    def test_by_the_words(self):
        many = set()
        for net in random_nets(40, 7) + knit_nets(40, 7):
            with self.subTest(net.text):
                right = expected_bearing(net) is not None
                self.check(net, right)
                many.add((right, held(net) != ()))
        self.assertEqual(len(many), 4)

    def test_weights_that_pulls_bear(self):
        for net in hung_nets(60):
            with self.subTest(net.text):
                self.check(net, True)

    def test_held_rings_bear_any_weight(self):
        for weight in ('0 -1', '0 1', '-1000 1000', '1/60 7'):
            net = Net(LINE.text.replace('ring m 2 0 0 -1', 'ring m 2 0 ' + weight))
            self.check(net, True)
            self.assertEqual(hangs(net), ('pulls', BORNE))
            self.assertEqual(hangs(RISING), hangs(Net(RISING.text.replace('ring m 2 0 0 -1', 'ring m 2 0 ' + weight))))

    def test_a_weight_across_a_line(self):
        net = net_of('net 2', 'peg a 0 0', 'peg b 4 0', 'ring m 2 0 0 -1', 'cord a m', 'cord m b')
        self.check(net, True)
        self.assertEqual(hangs(net), ('pulls', (NONE, NONE)))

    def test_all_weights_noughts(self):
        for net in random_nets(20) + knit_nets(20):
            lines = [line.split(' ') for line in net.text.split('\n')]
            for words in lines:
                if words[0] == 'ring':
                    words[2 + net.coords:] = ['0'] * net.coords
            light = Net('\n'.join(' '.join(words) for words in lines))
            self.assertEqual(hangs(light), ('pulls', (NONE,) * len(net.cords)))

    def test_rings_on_no_peg(self):
        rows = ('net 2', 'peg a 9 9', 'ring r 0 0 {}', 'ring s 2 1 {}', 'cord r s')
        for one, other, right in (('-2 -1', '2 1', True), ('2 1', '-2 -1', False), ('-2 -1', '2 2', False),
                                  ('0 -1', '0 -1', False), ('0 1', '0 -1', False), ('-1/2 -1/4', '1/2 1/4', True)):
            net = net_of(*[row.format(one if 'r' in row[:6] and number == 2 else other) for number, row in enumerate(rows)])
            with self.subTest(net.text):
                self.check(net, right)

    def test_a_ring_alone(self):
        for weight, right in (('0 0 0', True), ('0 0 1/60', False), ('-1000 0 0', False)):
            self.check(net_of('net 3', 'peg a 0 0 0', 'ring r 0 0 0 ' + weight), right)

    def test_below_and_above_a_peg(self):
        for place, weight, right in ((-1, -1, True), (1, -1, False), (-1, 1, False), (1, 1, True), (5, 0, True)):
            self.check(net_of('net 1', 'peg a 0', 'ring r {} {}'.format(place, weight), 'cord r a'), right)

    def test_no_ring_and_no_cord(self):
        self.assertEqual([hangs(BARE), does_hang(BARE), lower(BARE)], [('pulls', ()), True, None])
        self.shows(BARE, ('pulls', ()), True)
        for value in (('lower', (), ONE), ('pulls', (NONE,)), ('pulls', []), ('pulls',), (), None, 'pulls', ((), 'pulls')):
            self.shows(BARE, value, False)
        net = net_of('net 2', 'peg a 0 0', 'ring r 0 0 0 0', 'ring s 0 0 0 0')
        self.check(net, True)

    def test_at_bounds(self):
        for coords in (1, 2, 3):
            self.check(bound_net(coords), False)
            self.check(grid_net(coords), False)
            self.check(Net(grid_net(coords).text.replace('-1/2', '0')), True)
            # each ring draws straight away from its peg
            self.check(Net(grid_net(coords).text.replace(' -1/2' * coords, ' 1/2' + ' 0' * (coords - 1))), True)
        for coords in (2, 3):
            self.check(full_stairs(coords), True)


class TestShowsHangs(unittest.TestCase):
    def shows(self, net, value, right):
        with self.subTest(value=value):
            self.assertIs(shows_hangs(net, value), right)

    def test_pulls(self):
        self.shows(LINE, ('pulls', BORNE), True)
        for pulls in ((NONE,) * 4, (NONE, NONE, (3, 1), ONE), (ONE, ONE, (3, 1), (3, 1)), (NONE, ONE, (3, 1), (3, 1)),
                      BORNE[:3], BORNE + (NONE,), list(BORNE), (NONE, NONE, (-3, 1), (-3, 1)), (), None, BORNE[::-1],
                      (NONE, NONE, (6, 2), (3, 1)), (NONE, NONE, 3, 3), (False, False, (3, 1), (3, 1))):
            self.shows(LINE, ('pulls', pulls), False)
        for part in not_fractions():
            self.shows(LINE, ('pulls', (part,) + BORNE[1:]), False)
            self.shows(LINE, ('pulls', (NONE, NONE, part, part)), False)

    def test_pulls_at_cords_between_pegs_and_held_rings(self):
        for pull in (ONE, (1, 10 ** 11)):
            self.shows(LINE, ('pulls', (pull, pull) + BORNE[2:]), False)
        net = net_of('net 2', 'peg a 0 0', 'peg b 4 0', 'peg c 2 9', 'ring m 2 0 0 -1', 'cord a m', 'cord m b', 'cord c m')
        self.shows(net, ('pulls', (NONE, NONE, NONE)), True)
        self.shows(net, ('pulls', (NONE, NONE, (1, 9))), False)

    def test_several_pulls(self):
        net = net_of('net 2', 'peg a -1 1', 'peg b 1 1', 'peg c 0 1', 'ring r 0 0 0 -2', 'cord a r', 'cord b r', 'cord c r')
        for share in range(9):
            side = told(Fraction(share, 8))
            middle = told(2 - 2 * Fraction(share, 8))
            self.shows(net, ('pulls', (side, side, middle)), True)
        self.shows(net, ('pulls', ((9, 8), (9, 8), (-1, 4))), False)
        self.shows(net, ('pulls', (ONE, NONE, ONE)), False)

    def test_lower(self):
        moves, step = UP
        self.shows(RISING, ('lower', moves, step), True)
        self.shows(LINE, ('lower', moves, step), False)
        for wrong in ((2, 1), NONE, (-1, 4), [1, 4], 1, None, (2, 8), True):
            self.shows(RISING, ('lower', moves, wrong), False)
        held_moved = (moves[0], (NONE, (1, 1000)), moves[2])
        self.shows(RISING, ('lower', held_moved, step), False)
        for wrong in (moves[:2], moves + moves[:1], list(moves), (list(moves[0]),) + moves[1:], None, (), UP,
                      tuple(row + (NONE,) for row in moves), (moves[0], moves[1], (NONE, NONE))):
            self.shows(RISING, ('lower', wrong, step), False)
        for part in not_fractions():
            self.shows(RISING, ('lower', ((part, (2, 1)),) + moves[1:], step), False)
            self.shows(RISING, ('lower', moves, part), False)

    def test_lower_without_a_greater_score(self):
        light = Net(RISING.text.replace('0 3', '0 0').replace('ring j 2 -1 0 0', 'ring j 2 -1 1 0'))
        self.assertIs(does_hang(light), False)
        self.shows(light, ('lower',) + UP, False)
        self.shows(light, ('lower', ((NONE, (2, 1)), (NONE, NONE), ((1, 8), ONE)), (1, 4)), True)
        self.shows(light, ('lower', ((NONE, (2, 1)), (NONE, NONE), ((-1, 8), ONE)), (1, 4)), False)

    def test_rings_may_move_alike_or_stay(self):
        net = net_of('net 2', 'peg a 0 0', 'ring r 1 1 1 0', 'ring s 2 2 0 1', 'ring t 3 3 0 0')
        for moves, right in ((((ONE, NONE), (ONE, NONE), (ONE, NONE)), True), (((ONE, NONE),) + ((NONE, NONE),) * 2, True),
                             (((NONE, NONE), (ONE, NONE), (ONE, NONE)), False), (((NONE, NONE),) * 3, False)):
            self.shows(net, ('lower', moves, (10 ** 6, 1)), right)

    def test_a_cord_that_stays_as_long_as_drawn(self):
        net = net_of('net 1', 'peg a 0', 'ring r 4 -1', 'cord a r')
        for step, right in (((8, 1), False), ((7999999, 1000000), True), ((8000001, 1000000), False), ((1, 9), True)):
            self.shows(net, ('lower', (((-1, 1),),), step), right)

    def test_other_words(self):
        moves, step = UP
        for name in ('Pulls', 'pull', '', 'lower', None, 0, True, ('pulls',), ['pulls'], Net(BARE.text), 'higher'):
            self.shows(LINE, (name, BORNE), False)
        for name in ('Lower', 'pulls', '', None, 1, False, ('lower',), ['lower'], Net(BARE.text), 'loose'):
            self.shows(RISING, (name, moves, step), False)

    def test_any_value(self):
        for net in (LINE, RISING, BARE):
            for value in odd_values() + not_fractions():
                self.shows(net, value, False)
                self.shows(net, ('pulls', value), net is BARE and value == ())
                self.shows(net, ('lower', value, ONE), False)
                self.shows(net, ('lower', value), False)
                self.shows(net, (value, BORNE), False)


if __name__ == '__main__':
    unittest.main()
