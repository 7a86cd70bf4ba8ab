"""Section 7: rounds, and how all that no round reaches can be moved."""

import unittest
from fractions import Fraction

from cordsatrest.errors import NoCord, NoRing
from cordsatrest.nets import Net, place_of
from cordsatrest.placements import is_placement, lets, moved, picture
from cordsatrest.rounds import alike, further, held, loosening, round_of, rounds, shows_loosening, shows_rounds
from support import (
    NONE, ONE, bound_net, drawn, exact, expected_rounds, full_stairs, grid_net, knit_nets, net_of, not_fractions,
    odd_values, pulls_at, put, random_nets, refused, square_between, stairs, told,
)

# m straight between a and b, k straight above it, between m and c; l hangs on k alone
LADDER = net_of(
    'net 2', 'peg a 0 0', 'peg b 4 0', 'peg c 2 3', 'ring l 3 1 0 0', 'ring k 2 1 0 0', 'ring m 2 0 0 0',
    'cord a m', 'cord b m', 'cord c k', 'cord k m', 'cord k l',
)
FIRST = ((ONE, ONE, NONE, NONE, NONE), ('m',))
SECOND = ((NONE, NONE, ONE, (2, 1), NONE), ('k',))
# two rings on one line between pegs, tied to one another; two more on another one; a cord between both lines
LINES = net_of(
    'net 2', 'peg a 0 0', 'peg b 6 0', 'peg c 0 2', 'peg d 6 2', 'ring s 4 0 0 0', 'ring r 2 0 0 0', 'ring t 2 2 0 0',
    'cord a r', 'cord r s', 'cord s b', 'cord c t', 'cord t d', 'cord r t', 'cord s t',
)
BARE = net_of('net 3', 'peg a 0 0 0')


class TestRounds(unittest.TestCase):
    def reaches(self, net, *rings):
        self.assertEqual(tuple(names for _, names in rounds(net)), rings)
        self.assertIs(shows_rounds(net, rounds(net)), True)
        reached = [name for names in rings for name in names]
        self.assertEqual(held(net), tuple(name for name in net.rings if name in reached))
        for name in net.rings:
            numbers = [number for number, names in enumerate(rings, start=1) if name in names]
            self.assertEqual(round_of(net, name), numbers[0] if numbers else None)
        for cord, ends in enumerate(net.cords):
            self.assertIs(alike(net, cord), all(end in net.pegs or end in reached for end in ends))

    def test_rounds_that_need_one_another(self):
        self.reaches(LADDER, ('m',), ('k',))
        self.assertEqual([[pull > NONE for pull in pulls] for pulls, _ in rounds(LADDER)],
                         [[True, True, False, False, False], [False, False, True, True, False]])

    def test_several_above_one_another(self):
        for many in range(1, 9):
            net = stairs(many)
            self.reaches(net, *[(name,) for name in net.rings])
            self.assertEqual(held(net), net.rings)

    def test_the_first_stair_broken(self):
        net = Net(stairs(8).text.replace('\ncord a r', ''))
        self.reaches(net)
        net = Net(stairs(8).text.replace('\ncord f u', ''))
        self.reaches(net, ('r',), ('s',), ('t',))

    def test_one_round_in_the_sequence_of_the_net(self):
        self.reaches(LINES, ('s', 'r', 't'))
        self.assertEqual([pull > NONE for pull in rounds(LINES)[0][0]], [True] * 5 + [False] * 2)
        self.assertEqual([alike(LINES, cord) for cord in range(7)], [True] * 7)

    def test_a_cord_between_reached_rings_is_pulled_by_no_round(self):
        pulls = [[row[cord] for row, _ in rounds(LINES)] for cord in (5, 6)]
        self.assertEqual(pulls, [[NONE], [NONE]])

    def test_nothing_is_reached(self):
        self.reaches(net_of('net 2', 'peg a 0 0', 'ring r 0 -1 0 -1', 'cord a r'))
        self.reaches(net_of('net 1', 'peg a 0', 'ring r 1 0', 'ring s 2 0', 'cord r s'))
        self.reaches(net_of('net 1', 'peg a 0', 'ring r 0 0'))
        self.reaches(net_of('net 2', 'peg a 0 0', 'peg b 4 0', 'ring r 2 1/60 0 0', 'cord a r', 'cord b r'))
        self.reaches(net_of('net 1', 'peg a 0', 'peg b 1', 'ring r 2 0', 'cord a r', 'cord b r'))

    def test_rings_on_no_peg_never_balance(self):
        self.reaches(net_of('net 2', 'peg a 9 9', 'ring r 0 0 0 0', 'ring s 1 0 0 0', 'ring t 0 1 0 0', 'cord r s',
                            'cord s t', 'cord r t'))

    def test_no_rings(self):
        self.reaches(BARE)
        self.assertEqual([rounds(BARE), held(BARE), loosening(BARE), further(BARE)], [(), (), None, None])

    def test_a_ring_that_many_hold(self):
        net = net_of('net 3', 'peg a 0 0 1', 'peg b 1 1 -1', 'peg c 1 -2 -1', 'peg d -2 1 -1', 'ring r 0 0 0 1 1 1',
                     'cord a r', 'cord r b', 'cord c r', 'cord r d')
        self.reaches(net, ('r',))
        flat = Net(net.text.replace('\ncord r d', ''))
        self.reaches(flat)

    def test_pulls_of_fractions(self):
        net = net_of('net 1', 'peg a -1/59', 'peg b 1000/53', 'ring r 1/60 1', 'cord a r', 'cord r b')
        self.reaches(net, ('r',))

    def test_weights_do_not_count(self):
        for weight in ('0 0', '1 0', '-1000 1000', '1/60 -1/59'):
            net = Net(LADDER.text.replace('0 0\nring', weight + '\nring'))
            self.assertEqual((rounds(net), loosening(net)), (rounds(LADDER), loosening(LADDER)))

    def test_no_ring(self):
        for value in odd_values() + ['a', 'b', 'c', 'M', ('m',), ['m'], 0]:
            with self.subTest(value=value):
                refused(self, NoRing, value, round_of, LADDER, value)
                refused(self, NoRing, value, round_of, ring=value, net=LADDER)

    def test_no_cord(self):
        for value in odd_values() + [5, -1, (0,), 'a', ('a', 'm'), True, False]:
            with self.subTest(value=value):
                refused(self, NoCord, value, alike, LADDER, value)
                refused(self, NoCord, value, alike, cord=value, net=LADDER)


class TestShowsRounds(unittest.TestCase):
    def test_right_ones(self):
        for value in ((FIRST, SECOND), ((((5, 7), (5, 7)) + (NONE,) * 3, ('m',)), SECOND),
                      (FIRST, ((NONE, NONE, (1, 2), ONE, NONE), ('k',)))):
            self.assertIs(shows_rounds(LADDER, value), True)
        both = ((ONE, ONE, (2, 1), (1, 3), (1, 6), NONE, NONE), ('s', 'r', 't'))
        self.assertIs(shows_rounds(LINES, (((ONE, ONE, ONE, (1, 3), (1, 6), NONE, NONE), both[1]),)), True)
        self.assertIs(shows_rounds(LINES, (both,)), False)
        self.assertIs(shows_rounds(BARE, ()), True)

    def test_wrong_pulls(self):
        for pulls in ((ONE, (2, 1), NONE, NONE, NONE), (NONE,) * 5, (ONE, ONE, ONE, (2, 1), NONE),
                      (ONE, ONE, NONE, NONE, ONE), (ONE, ONE, NONE, NONE), (ONE, ONE, NONE, NONE, NONE, NONE),
                      ((-1, 1), (-1, 1), NONE, NONE, NONE), [ONE, ONE, NONE, NONE, NONE],
                      (ONE, ONE, NONE, NONE, [0, 1]), ()):
            with self.subTest(pulls=pulls):
                self.assertIs(shows_rounds(LADDER, ((pulls, ('m',)), SECOND)), False)
        for pulls in ((NONE, NONE, (2, 1), ONE, NONE), (ONE, ONE, ONE, (2, 1), NONE), (ONE, NONE, ONE, (2, 1), NONE),
                      (NONE, NONE, ONE, (2, 1), ONE), (NONE,) * 5):
            with self.subTest(pulls=pulls):
                self.assertIs(shows_rounds(LADDER, (FIRST, (pulls, ('k',)))), False)
        for part in not_fractions():
            self.assertIs(shows_rounds(LADDER, (((part, part, NONE, NONE, NONE), ('m',)), SECOND)), False)
            self.assertIs(shows_rounds(LADDER, (FIRST, ((NONE, NONE, ONE, (2, 1), part), ('k',)))), False)

    def test_all_that_can_be_pulled_is(self):
        self.assertIs(shows_rounds(LINES, (((ONE, ONE, ONE) + (NONE,) * 4, ('s', 'r')),)), False)
        part = ((ONE, ONE, ONE) + (NONE,) * 4, ('s', 'r')), ((NONE,) * 3 + ((2, 1), ONE, NONE, NONE), ('t',))
        self.assertIs(shows_rounds(LINES, part), False)
        pulls = ((2, 1), (2, 1), (2, 1), (2, 1), ONE, NONE, NONE)
        self.assertIs(shows_rounds(LINES, ((pulls, ('s', 'r', 't')),)), True)
        self.assertIs(shows_rounds(LINES, (((NONE,) * 3 + pulls[3:], ('s', 'r', 't')),)), False)

    def test_wrong_rings(self):
        for rings in ((), ('k',), ('m', 'k'), ('m', 'm'), ['m'], 'm', ('M',), (0,), None, (('m',),), {'m': 1}):
            with self.subTest(rings=rings):
                self.assertIs(shows_rounds(LADDER, ((FIRST[0], rings), SECOND)), False)
        own = rounds(LINES)
        for rings in (('r', 's', 't'), ('s', 'r'), ('s', 'r', 't', 't'), ['s', 'r', 't']):
            self.assertIs(shows_rounds(LINES, ((own[0][0], rings),)), False)

    def test_wrong_rows_of_rounds(self):
        for value in ((), (FIRST,), (SECOND,), (SECOND, FIRST), (FIRST, SECOND, ((NONE,) * 5, ())), (FIRST, FIRST),
                      (FIRST, SECOND, SECOND), [FIRST, SECOND], (list(FIRST), SECOND), (FIRST, SECOND + (1,)),
                      (FIRST, ()), (FIRST, None), (FIRST[::-1], SECOND), FIRST,
                      (((ONE, ONE, ONE, (2, 1), NONE), ('k', 'm')),)):
            with self.subTest(value=value):
                self.assertIs(shows_rounds(LADDER, value), False)

    def test_any_value(self):
        for net in (LADDER, LINES, stairs(1)):
            for value in odd_values() + not_fractions() + [(value,) for value in odd_values()]:
                with self.subTest(value=value):
                    self.assertIs(shows_rounds(net, value), False)
                    self.assertIs(shows_rounds(net, ((rounds(net)[0][0], value),)), False)
        for value in odd_values() + [((),), [], (((), ()),)]:
            self.assertIs(shows_rounds(BARE, value), False)


def loose_net():
    """A held ring m; s and t hang on it, and on one another; u hangs on nothing."""
    return net_of(
        'net 2', 'peg a 0 0', 'peg b 4 0', 'ring s 1 1 0 0', 'ring m 2 0 0 0', 'ring t 3 1 0 0', 'ring u 9 9 0 0',
        'cord a m', 'cord m b', 'cord m s', 'cord t m', 'cord s t',
    )


MOVES = ((ONE, NONE), (NONE, NONE), ((-1, 1), (-1, 1)), (NONE, ONE))


class TestLoosening(unittest.TestCase):
    def shows(self, net, value, right):
        with self.subTest(value=value):
            self.assertIs(shows_loosening(net, value), right)

    def test_all_are_held(self):
        for net in (BARE, stairs(3), LINES):
            self.assertEqual((loosening(net), further(net)), (None, None))
            self.shows(net, None, True)
            for value in odd_values() + not_fractions() + [(((NONE, NONE),) * len(net), ONE)]:
                self.shows(net, value, value is None)

    def test_right_ones(self):
        net = loose_net()
        for step in ((1, 2), (1, 4), (1, 1000000), (3, 5)):
            self.shows(net, (MOVES, step), True)

    def test_steps(self):
        net = loose_net()
        for step in [NONE, (-1, 4), (2, 1), (3, 1)] + not_fractions() + odd_values():
            self.shows(net, (MOVES, step), False)

    def test_a_cord_as_long_as_drawn_is_not_shorter(self):
        net = net_of('net 1', 'peg a 0', 'ring r 4 0', 'cord a r')
        moves = (((-1, 1),),)
        for step, right in (((8, 1), False), ((7999999, 1000000), True), ((8000001, 1000000), False), ((4, 1), True),
                            ((1, 9), True)):
            self.shows(net, (moves, step), right)
        self.shows(net, ((ONE,), ONE), False)

    def test_noughts_at_held_rings_alone(self):
        net, step = loose_net(), (1, 4)
        self.shows(net, (MOVES[:1] + ((NONE, (1, 100)),) + MOVES[2:], step), False)
        self.shows(net, (MOVES[:3] + ((NONE, NONE),), step), False)
        self.shows(net, (((NONE, NONE),) + MOVES[1:], step), False)

    def test_no_two_alike(self):
        net = loose_net()
        for row in (MOVES[0], MOVES[2]):
            self.shows(net, (MOVES[:3] + (row,), (1, 4)), False)
        down = net_of('net 2', 'peg a 0 0', 'peg b 1 0', 'ring r 0 -2 0 0', 'ring s 1 -2 0 0', 'cord a r', 'cord b s')
        self.shows(down, (((NONE, ONE), (NONE, ONE)), ONE), False)
        self.shows(down, (((NONE, ONE), (NONE, (2, 1))), ONE), True)
        self.shows(down, (((NONE, ONE), (NONE, ONE)), (1, 2)), False)

    def test_each_cord_is_shorter(self):
        net = loose_net()
        for row in ((NONE, ONE), (ONE, ONE), ((1, 1), (-1, 1))):
            self.shows(net, ((row,) + MOVES[1:], (1, 4)), row == (ONE, (-1, 1)))
        side = net_of('net 2', 'peg a 0 0', 'ring r 0 -2 0 0', 'ring s 5 5 0 0', 'cord a r')
        self.shows(side, (((ONE, NONE), (NONE, ONE)), (1, 100)), False)
        self.shows(side, (((ONE, ONE), (NONE, ONE)), (1, 100)), True)

    def test_wrong_values(self):
        net, step = loose_net(), (1, 4)
        for value in (None, (), MOVES, (MOVES,), (MOVES, step, step), [MOVES, step], (list(MOVES), step), (step, MOVES),
                      (MOVES[:3], step), (MOVES + MOVES[:1], step), (([ONE, NONE],) + MOVES[1:], step), (None, step),
                      (tuple(row + (NONE,) for row in MOVES), step), (((ONE,),) + MOVES[1:], step), ((), step)):
            self.shows(net, value, False)
        for part in not_fractions():
            self.shows(net, (((part, NONE),) + MOVES[1:], step), False)
            self.shows(net, (MOVES[:3] + ((part, ONE),), step), False)
        for value in odd_values():
            self.shows(net, value, False)
            self.shows(net, (value, step), False)
            self.shows(net, (MOVES, value), False)

    def test_rings_without_cords(self):
        net = net_of('net 3', 'peg a 0 0 0', 'ring r 1 1 1 0 0 0', 'ring s 2 2 2 0 0 0')
        moves, step = loosening(net)
        self.assertEqual(len(set(moves)), 2)
        self.assertNotIn((NONE,) * 3, moves)
        self.shows(net, (moves, step), True)

    def test_further(self):
        net = loose_net()
        moves, step = loosening(net)
        self.assertEqual(further(net), moved(net, moves, step))
        self.assertEqual(further(net)[1], place_of(net, 'm'))


class TestAll(unittest.TestCase):
    def check_rounds(self, net, expected):
        own = rounds(net)
        pulled = [({at for at, pull in enumerate(pulls) if pull[0] > 0}, rings) for pulls, rings in own]
        self.assertEqual(pulled, expected)
        free = list(net.rings)
        for pulls, rings in own:
            for ring in free:
                self.assertEqual(pulls_at(net, pulls, ring), [0] * net.coords)
            free = [ring for ring in free if ring not in rings]
        self.assertEqual(held(net), tuple(ring for ring in net.rings if ring not in free))
        self.assertIs(shows_rounds(net, own), True)
        if own:
            self.assertIs(shows_rounds(net, own[:-1]), False)
            third = tuple((tuple(told(part / 3) for part in exact(pulls)), rings) for pulls, rings in own)
            self.assertIs(shows_rounds(net, third), True)
            first = tuple((pull[0] + pull[1], pull[1]) if pull[0] > 0 else pull for pull in own[0][0])
            right = all(not any(pulls_at(net, first, ring)) for ring in net.rings)
            self.assertIs(shows_rounds(net, ((first, own[0][1]),) + own[1:]), right)

    def check_loosening(self, net):
        stays = held(net)
        if stays == net.rings:
            self.assertEqual((loosening(net), further(net)), (None, None))
            return
        moves, step = loosening(net)
        rows = further(net)
        self.assertGreater(Fraction(*step), 0)
        self.assertEqual([len(row) for row in moves], [net.coords] * len(net))
        loose = [row for ring, row in zip(net.rings, moves) if ring not in stays]
        self.assertEqual([ring for ring, row in zip(net.rings, moves) if not any(exact(row))], list(stays))
        self.assertEqual(len(set(loose)), len(loose))
        self.assertEqual(rows, moved(net, moves, step))
        self.assertIs(is_placement(net, rows), True)
        for cord, (one, other) in enumerate(net.cords):
            fast = all(end in net.pegs or end in stays for end in (one, other))
            self.assertIs(alike(net, cord), fast)
            less = square_between(drawn(net), one, other) - square_between(put(net, rows), one, other)
            self.assertIs(less > 0, not fast)
            self.assertIs(less == 0, fast)
        for ring, row, place in zip(net.rings, rows, picture(net)):
            self.assertIs(row == place, ring in stays)
        self.assertIs(shows_loosening(net, (moves, step)), True)
        self.assertIs(shows_loosening(net, (moves, NONE)), False)
        if not all(alike(net, cord) for cord in range(len(net.cords))):
            far = told(Fraction(*step) * 10 ** 6)
            self.assertFalse(is_placement(net, moved(net, moves, far)))
            self.assertIs(shows_loosening(net, (moves, far)), False)

    def test_all_nets(self):
        for net in random_nets(60):
            with self.subTest(net.text):
                self.check_rounds(net, expected_rounds(net))
                self.check_loosening(net)

    def test_nets_with_many_lines(self):
        many = set()
        for net in knit_nets(120):
            with self.subTest(net.text):
                self.check_rounds(net, expected_rounds(net))
                self.check_loosening(net)
                many.add(len(rounds(net)))
        self.assertLessEqual({0, 1, 2}, many)

    def test_a_cord_more_or_another_sequence(self):
        for net in random_nets(10, seed=5) + knit_nets(40, seed=5):
            lines = net.text.split('\n')
            cords = len(lines) - len(net.cords)
            turned = Net('\n'.join(lines[:cords] + lines[cords:][::-1]))
            self.assertEqual([rings for _, rings in rounds(turned)], [rings for _, rings in rounds(net)])
            if net.cords:
                fewer = Net('\n'.join(lines[:-1]))
                self.assertLessEqual(set(held(fewer)), set(held(net)))

    def test_at_bounds(self):
        for coords in (1, 2, 3):
            with self.subTest(coords):
                # on a line the cords between the held rings lie on rising ways, too
                between = {12, 13, 14, 19} if coords == 1 else set()
                net = grid_net(coords)
                self.check_rounds(net, [(set(range(8)) | between, ('q', 'r', 's', 't'))])
                self.check_loosening(net)
                self.assertEqual([alike(net, cord) for cord in (0, 12, 14, 15, 19)], [True, True, True, False, True])
                self.check_loosening(bound_net(coords))

    def test_eight_rounds_at_bounds(self):
        for coords in (2, 3):
            with self.subTest(coords):
                net = full_stairs(coords)
                pairs = [{0, 1, 16, 17}] + [{2 * at, 2 * at + 1} for at in range(1, 7)] + [{14, 15, 18, 19}]
                self.check_rounds(net, list(zip(pairs, [(name,) for name in net.rings])))
                self.check_loosening(net)
                self.assertEqual(round_of(net, 'y'), 8)
                self.assertIs(alike(net, 19), True)


if __name__ == '__main__':
    unittest.main()
