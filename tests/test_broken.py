"""Section 14: what is held still if a cord breaks."""

import unittest

from cordsatrest.broken import bare, lasting, needed, spare, without
from cordsatrest.errors import NoCord, NoRing, NotHeld
from cordsatrest.nets import Net
from cordsatrest.rounds import held, round_of, rounds
from support import (
    bound_net, expected_held, full_stairs, grid_net, knit_nets, net_of, odd_values, random_nets, refused, stairs,
)

# m between a and b; k between c and m, or d and m; r hangs on k; the cord of d to e's ring is of rings not held
NET = net_of(
    'net 2', 'peg a 0 0', 'peg b 4 0', 'peg c 2 4', 'peg d 2 9', 'ring r 7 7 0 -1', 'ring k 2 2 0 0', 'ring m 2 0 1/2 0',
    'cord a m', 'cord b m', 'cord c k', 'cord k m', 'cord r k', 'cord d k', 'cord d r',
)
STAR = net_of(
    'net 2', 'peg e 1 0', 'peg w -1 0', 'peg n 0 1', 'peg s 0 -1', 'ring r 0 0 0 0', 'cord e r', 'cord w r', 'cord n r', 'cord s r',
)
BARE = net_of('net 2', 'peg a 0 0')


def less(net, cord):
    """The net whose text lacks a cord's line."""
    lines = net.text.split('\n')
    del lines[len(lines) - len(net.cords) + cord]
    return Net('\n'.join(lines))


class TestBroken(unittest.TestCase):
    def check(self, net, holds):
        """By the words; holds tells the held rings of a net."""
        own = holds(net)
        broken = [holds(less(net, cord)) for cord in range(len(net.cords))]
        for cord in range(len(net.cords)):
            found = without(net, cord)
            self.assertIs(type(found), Net)
            self.assertEqual(found.text, less(net, cord).text)
        for ring in net.rings:
            if ring in own:
                self.assertEqual(needed(net, ring), tuple(cord for cord, rings in enumerate(broken) if ring not in rings))
            else:
                refused(self, NotHeld, ring, needed, net, ring)
        self.assertEqual(lasting(net), tuple(ring for ring in own if all(ring in rings for rings in broken)))
        self.assertEqual(spare(net), tuple(cord for cord, rings in enumerate(broken) if rings == own))
        self.check_bare(net, holds, own)

    def check_bare(self, net, holds, own):
        left, at = net, 0
        for _ in net.cords:
            if set(own) <= set(holds(less(left, at))):
                left = less(left, at)
            else:
                at += 1
        found = bare(net)
        self.assertEqual(found, left)
        self.assertEqual(holds(found), own)
        self.assertEqual(spare(found), ())
        self.assertEqual(bare(found), found)
        cords = [cord for cord in net.cords if cord in found.cords]
        self.assertEqual(found.cords, tuple(cords))
        self.assertLessEqual(len(own) + len(rounds(found)), len(found.cords))
        self.assertLessEqual(len(found.cords), len(own) * (net.coords + 1))

    def test_by_the_words(self):
        most = 0
        for net in random_nets(40, 7) + knit_nets(80, 9) + [NET, STAR, BARE, stairs(3)]:
            with self.subTest(net.text):
                self.check(net, expected_held)
                most = max(most, len(net.cords) - len(bare(net).cords))
        self.assertGreater(most, 2)

    def test_several_ways(self):
        self.assertEqual([held(NET), spare(NET), lasting(NET)], [('k', 'm'), (2, 4, 5, 6), ()])
        self.assertEqual([needed(NET, 'm'), needed(NET, 'k')], [(0, 1), (0, 1, 3)])
        self.assertEqual(bare(NET).cords, (('a', 'm'), ('b', 'm'), ('k', 'm'), ('d', 'k')))
        self.assertEqual([needed(STAR, 'r'), lasting(STAR), spare(STAR)], [(), ('r',), (0, 1, 2, 3)])

    def test_what_stays_when_cords_break(self):
        net = without(NET, 2)
        self.assertEqual(net.cords, NET.cords[:2] + NET.cords[3:])
        self.assertEqual((net.pegs, net.rings, net.coords), (NET.pegs, NET.rings, NET.coords))
        self.assertEqual(net.text, NET.text.replace('cord c k\n', ''))
        self.assertEqual(without(net, len(net.cords) - 1).text, net.text.replace('\ncord d r', ''))
        fine = net_of('net 3', 'peg a -1/60 1000 0', 'ring q 1/7 -2/3 5 -1000 999/59 0', 'cord q a')
        self.assertEqual(without(fine, 0).text, fine.text.replace('\ncord q a', ''))

    def test_cords_of_rings_that_are_not_held_are_spare(self):
        net = net_of('net 1', 'peg a 0', 'ring q 1 0', 'ring r 2 0', 'cord a q', 'cord q r')
        self.assertEqual([held(net), spare(net), lasting(net), bare(net).cords], [(), (0, 1), (), ()])

    def test_a_round_earlier_with_a_cord_more(self):
        net = Net(stairs(4).text + '\ncord a t')
        for cord in range(len(net.cords)):
            fewer = without(net, cord)
            for ring in held(fewer):
                self.assertIn(ring, held(net))
                self.assertLessEqual(round_of(net, ring), round_of(fewer, ring))

    def test_no_ring_and_no_cord(self):
        for net in (BARE, net_of('net 1', 'peg a 0', 'ring r 0 1')):
            self.assertEqual([lasting(net), spare(net), bare(net)], [(), (), net])
            refused(self, NoCord, 0, without, net, 0)
        refused(self, NoRing, 'r', needed, BARE, 'r')
        refused(self, NotHeld, 'r', needed, net_of('net 1', 'peg a 0', 'ring r 0 1'), 'r')

    def test_weights_do_not_count(self):
        heavy = Net(NET.text.replace('ring k 2 2 0 0', 'ring k 2 2 -3 1/7'))
        self.assertEqual([needed(heavy, 'k'), lasting(heavy), spare(heavy)], [needed(NET, 'k'), lasting(NET), spare(NET)])
        self.assertEqual(bare(heavy).text, bare(NET).text.replace('ring k 2 2 0 0', 'ring k 2 2 -3 1/7'))

    def test_no_cord_with_this_number(self):
        for value in odd_values() + [7, -1, '0', (0,), [0], 10 ** 11, True, False]:
            with self.subTest(value=value):
                refused(self, NoCord, value, without, NET, value)
                refused(self, NoCord, value, without, cord=value, net=NET)

    def test_no_ring_with_this_name(self):
        for value in odd_values() + ['a', 'z', 'M', ('m',), ['m'], 0]:
            with self.subTest(value=value):
                refused(self, NoRing, value, needed, NET, value)
                refused(self, NoRing, value, needed, ring=value, net=NET)

    def test_not_held(self):
        refused(self, NotHeld, 'r', needed, NET, 'r')
        refused(self, NotHeld, 'm', needed, without(NET, 0), 'm')

    def test_at_bounds(self):
        for coords in (1, 2, 3):
            self.check(bound_net(coords), held)
            self.check(grid_net(coords), held)
        for coords in (2, 3):
            self.check(full_stairs(coords), held)


if __name__ == '__main__':
    unittest.main()
