"""Section 12: nets of one coordinate."""

import random
import unittest
from fractions import Fraction
from itertools import combinations

from cordsatrest.errors import BadWay, NoLine, NoRing
from cordsatrest.hanging import does_hang
from cordsatrest.nets import Net
from cordsatrest.rounds import rounds
from cordsatrest.straight import heavy, rising, shows_heavy, shows_rising, way_pulls
from support import (
    NONE, ONE, PEGS, RINGS, bound_net, drawn, expected_bearing, expected_held, grid_net, hung_net, net_of, odd_values,
    pulled_cords, pulls_at, random_net, refused, stairs, told, weights,
)

LINE = net_of(
    'net 1', 'peg a 0', 'peg b 5', 'peg c -1', 'ring r 2 0', 'ring s 3 0', 'ring t 1 0', 'ring u 6 0', 'ring v 9 0',
    'cord a t', 'cord t s', 'cord s b', 'cord r s', 'cord u b', 'cord c t', 'cord t b', 'cord s a',
)
PILE = net_of('net 1', 'peg a 0', 'ring r 1 2', 'ring s 2 -3', 'ring t -1 0', 'cord a r', 'cord r s', 'cord t a')
BARE = net_of('net 1', 'peg a 0', 'peg b 1')
PLANE = net_of('net 2', 'peg a 0 0', 'peg b 2 0', 'ring r 1 0 0 0', 'cord a r', 'cord r b')
SPACE = net_of('net 3', 'peg a 0 0 0')


def lines(many, most_cords=7, seed=31):
    """So many nets of one coordinate, half of them with fractions, some of them hung."""
    chance = random.Random(seed)
    found = []
    for number in range(many):
        shape = chance.randint(1, 4), chance.randint(0, 5), chance.randint(0, most_cords)
        net = random_net(chance, 1, *shape, fine=number % 2 == 1)
        found.append(hung_net(chance, net) if number % 3 == 0 else net)
    return found


def ways(net):
    """All rising ways, by going up from each peg."""
    places, found = drawn(net), []
    left = [(peg,) for peg in net.pegs]
    while left:
        way = left.pop()
        for ends in net.cords:
            for here, there in (ends, ends[::-1]):
                if here == way[-1] and places[there] > places[here]:
                    if there in net.rings:
                        left.append(way + (there,))
                    elif len(way) > 1:
                        found.append(way + (there,))
    return found


def heavy_sets(net):
    """All values that heavy may tell, by going through all sets of rings."""
    places, draws = drawn(net), weights(net)
    pairs = [ends if places[ends[0]] < places[ends[1]] else ends[::-1] for ends in net.cords]
    found = []
    for many in range(1, len(net) + 1):
        for rings in combinations(net.rings, many):
            total = sum(draws[ring][0] for ring in rings)
            if total < 0 and all(upper in rings for lower, upper in pairs if lower in rings):
                found.append(('down', rings))
            if total > 0 and all(lower in rings for lower, upper in pairs if upper in rings):
                found.append(('up', rings))
    return found


class TestRising(unittest.TestCase):
    def test_by_the_words(self):
        seen = set()
        for net in lines(80) + [LINE, PILE, BARE]:
            every = ways(net)
            for ring in net.rings:
                with self.subTest(net=net.text, ring=ring):
                    own = rising(net, ring)
                    mine = [way for way in every if ring in way]
                    self.assertIs(own in mine, mine != [])
                    self.assertIs(own is None, mine == [])
                    self.assertIs(shows_rising(net, ring, None), mine == [])
                    for way in every:
                        self.assertIs(shows_rising(net, ring, way), ring in way)
                        self.assertIs(shows_rising(net, ring, way[::-1]), False)
                    self.assertIs(ring in expected_held(net), mine != [])
                    seen.add(min(len(mine), 2))
            self.assertLessEqual(len(rounds(net)), 1)
        self.assertEqual(seen, {0, 1, 2})

    def test_rings_on_several_ways_and_on_none(self):
        every = [way for way in ways(LINE) if 't' in way]
        self.assertEqual(len(every), 4)
        for ring, right in (('t', every), ('s', [way for way in ways(LINE) if 's' in way])):
            self.assertIn(rising(LINE, ring), right)
        for ring in ('r', 'u', 'v'):
            self.assertIs(rising(LINE, ring), None)
            self.assertIs(shows_rising(LINE, ring, None), True)
            self.assertIs(shows_rising(LINE, ring, ('a', ring, 'b')), False)

    def test_above_and_below_all_pegs(self):
        net = net_of('net 1', 'peg a 0', 'peg b 5', 'ring r -1 0', 'ring s 6 0', 'cord a r', 'cord b r', 'cord s a', 'cord s b',
                     'cord r s')
        self.assertEqual([rising(net, 'r'), rising(net, 's'), ways(net)], [None, None, []])

    def test_a_peg_is_no_ring_between(self):
        net = net_of('net 1', 'peg a 0', 'peg b 2', 'peg c 4', 'ring r 1 0', 'ring s 3 0', 'cord a r', 'cord r b', 'cord b s',
                     'cord s c')
        self.assertEqual([rising(net, 'r'), rising(net, 's')], [('a', 'r', 'b'), ('b', 's', 'c')])
        self.assertIs(shows_rising(net, 'r', ('a', 'r', 'b', 's', 'c')), False)
        refused(self, BadWay, ('a', 'r', 'b', 's', 'c'), way_pulls, net, ('a', 'r', 'b', 's', 'c'))

    def test_shows_any_value(self):
        good = ('a', 't', 's', 'b')
        self.assertIs(shows_rising(LINE, 't', good), True)
        for value in odd_values() + [list(good), good[1:], good[:-1], good[::-1], good + good[-1:], ('a', 'b'), ('a', 's'),
                                     ('a', 's', 'b'), ('c', 't', 'b'), ('a', 'r', 's', 'b'), ('a', 's', 't', 'b')]:
            self.assertIs(shows_rising(LINE, 't', value), value == ('c', 't', 'b'))
        self.assertIs(shows_rising(LINE, 's', ('c', 't', 'b')), False)

    def test_no_ring(self):
        for value in odd_values() + ['a', 'b', 'z', 'R', ('t',), ['t'], 0]:
            with self.subTest(value=value):
                refused(self, NoRing, value, rising, LINE, value)
                refused(self, NoRing, value, rising, ring=value, net=LINE)
                refused(self, NoRing, value, shows_rising, LINE, value, None)
        refused(self, NoRing, 'r', rising, BARE, 'r')


class TestWayPulls(unittest.TestCase):
    def test_by_the_words(self):
        most = 0
        for net in lines(80):
            places = drawn(net)
            every = ways(net)
            for way in every:
                pulls = way_pulls(net, way)
                steps = [{one, other} for one, other in zip(way, way[1:])]
                expected = []
                for one, other in net.cords:
                    length = abs(places[one][0] - places[other][0])
                    expected.append(told(1 / length) if {one, other} in steps else NONE)
                self.assertEqual(pulls, tuple(expected))
                for ring in net.rings:
                    self.assertEqual(pulls_at(net, pulls, ring), [0])
            together = {at for way in every for at, pull in enumerate(way_pulls(net, way)) if pull != NONE}
            self.assertEqual(together, pulled_cords(net, net.rings))
            most = max(most, len(every))
        self.assertGreater(most, 3)

    def test_pulls_of_fractions(self):
        net = net_of('net 1', 'peg a -1/2', 'peg b 1/3', 'ring r 0 0', 'cord b r', 'cord r a')
        self.assertEqual(way_pulls(net, ('a', 'r', 'b')), ((3, 1), (2, 1)))

    def test_bad_way(self):
        wrong = [
            ('b', 's', 't', 'a'), ('a', 't', 's'), ('t', 's', 'b'), ('a', 'b'), ('a',), (), ['a', 't', 's', 'b'], 'atsb',
            ('a', 't', 't', 's', 'b'), ('a', 'z', 'b'), ('a', 't', None, 'b'), ('a', 't', ('s',), 'b'), ('a', 't', True, 'b'),
            ('a', 'r', 's', 'b'), ('t', 's', 'r'), ('r', 's', 'b'), ('a', 't', 's', 'u'), ('c', 'a', 'b'), ('a', 'c', 'b'),
            ('a', 't', 'b', 'u'), (('a', 't', 's', 'b'),), ('a', 't', ['s'], 'b'), ('a', 's', 'a'), ('b', 'u', 'b'),
        ]
        for value in odd_values() + wrong:
            with self.subTest(value=value):
                refused(self, BadWay, value, way_pulls, LINE, value)
                refused(self, BadWay, value, way_pulls, way=value, net=LINE)


class TestHeavy(unittest.TestCase):
    def test_by_the_words(self):
        sides = set()
        for net in lines(120) + [LINE, PILE, BARE]:
            with self.subTest(net.text):
                right = heavy_sets(net)
                own = heavy(net)
                self.assertIs(does_hang(net), right == [])
                self.assertIs(expected_bearing(net) is None, right != [])
                self.assertIs(own is None, right == [])
                self.assertTrue(own is None or own in right)
                self.assertIs(shows_heavy(net, None), right == [])
                self.assertIs(shows_heavy(net, own), True)
                for many in range(1, len(net) + 1):
                    for rings in combinations(net.rings, many):
                        for side in ('down', 'up'):
                            self.assertIs(shows_heavy(net, (side, rings)), (side, rings) in right)
                sides.add(own and (own[0], len(own[1]) > 1))
        self.assertEqual(sides, {None, ('down', False), ('down', True), ('up', False), ('up', True)})

    def test_one_ring_and_several(self):
        for rings, right in ((('s',), True), (('r', 's'), True), (('r',), False), (('r', 's', 't'), False), (('t',), False),
                             (('s', 't'), False)):
            self.assertIs(shows_heavy(PILE, ('down', rings)), right)
            self.assertIs(shows_heavy(PILE, ('up', rings)), False)
        chain = net_of('net 1', 'peg a 9', 'ring r 1 2', 'ring s 2 1', 'ring t 3 -2', 'cord a t', 'cord r s', 'cord t s')
        self.assertIn(heavy(chain), heavy_sets(chain))
        for rings, right in ((('r',), True), (('r', 's'), True), (('r', 's', 't'), True), (('s',), False), (('r', 't'), False)):
            self.assertIs(shows_heavy(chain, ('up', rings)), right)

    def test_nothing_falls_that_hangs(self):
        for net in (LINE, BARE, net_of('net 1', 'peg a 0', 'ring r -2 -1', 'cord a r')):
            self.assertIs(heavy(net), None)
            self.assertIs(shows_heavy(net, None), True)
            for side in ('down', 'up'):
                for rings in [()] + [(ring,) for ring in net.rings]:
                    self.assertIs(shows_heavy(net, (side, rings)), False)

    def test_held_rings_bear_any_weight(self):
        net = Net(LINE.text.replace('ring t 1 0', 'ring t 1 -1000').replace('ring s 3 0', 'ring s 3 7'))
        self.assertIs(heavy(net), None)
        net = Net(net.text.replace('ring r 2 0', 'ring r 2 1'))
        self.assertEqual(heavy(net), ('up', ('r',)))
        self.assertIs(shows_heavy(net, ('up', ('r', 's'))), False)

    def test_wrong_values(self):
        net = Net(PILE.text.replace('ring t -1 0', 'ring t -1 -1/2'))
        self.assertIs(shows_heavy(net, ('down', ('r', 's'))), True)
        for value in [
            ('down', ('s', 'r')), ('down', ('s', 's')), ('down', ['s']), ['down', ('s',)], ('down', 's'), ('down', ('a',)),
            ('down', ('s', 'z')), ('down', ()), ('down',), ('down', ('s',), 1), (('s',), 'down'), ('Down', ('s',)), ('', ('s',)),
            (None, ('s',)), (True, ('s',)), ('down', (('s',),)), ('down', None), ('up', ('s',)), (['down'], ('s',)),
            (('down',), ('s',)), ('down', ('s', 's', 's')), ('down', ('s', 'a')), (Net(BARE.text), ('s',)), 'down',
        ]:
            with self.subTest(value=value):
                self.assertIs(shows_heavy(net, value), False)
        light = Net(PILE.text.replace('ring t -1 0', 'ring t -1 1'))
        self.assertIs(shows_heavy(light, ('up', ('r',))), False)
        self.assertIs(shows_heavy(light, ('up', ('t',))), True)
        light = Net(PILE.text.replace('peg a 0', 'peg a 1/2').replace('cord a r', 'cord t r'))
        self.assertIs(shows_heavy(light, ('up', ('r', 't'))), True)
        for word in ('Up', 'down', 'ups', '', None, True, ('up',), ['up'], 'upward'):
            self.assertIs(shows_heavy(light, (word, ('r', 't'))), False)
        for value in odd_values():
            self.assertIs(shows_heavy(net, value), False)
            self.assertIs(shows_heavy(net, ('down', value)), False)
            self.assertIs(shows_heavy(net, ('up', value)), False)
            self.assertIs(shows_heavy(net, (value, ('s',))), False)
            self.assertIs(shows_heavy(light, (value, ('r', 't'))), False)


class TestNoLine(unittest.TestCase):
    def test_ahead_of_all_other_errors(self):
        for net in (PLANE, SPACE):
            for value in odd_values() + ['r', ('a', 'r', 'b')]:
                for call, args in ((rising, (value,)), (shows_rising, (value, value)), (way_pulls, (value,)), (heavy, ()),
                                   (shows_heavy, (value,))):
                    refused(self, NoLine, net.coords, call, net, *args)
        refused(self, NoLine, 2, shows_rising, net=PLANE, ring='r', value=None)

    def test_at_bounds(self):
        for coords in (2, 3):
            refused(self, NoLine, coords, heavy, bound_net(coords))
        for net in (bound_net(1), grid_net(1), full_line()):
            for ring in net.rings:
                own = rising(net, ring)
                self.assertIs(shows_rising(net, ring, own), True)
                if own is not None:
                    self.assertEqual(len(way_pulls(net, own)), 20)
            self.assertIs(shows_heavy(net, heavy(net)), True)
            self.assertIs(shows_heavy(net, None), does_hang(net))
        net = full_line()
        self.assertEqual(rising(net, 't')[0], 'a')
        self.assertIs(heavy(net), None)
        cut = Net(net.text.replace('\ncord x b', '').replace('\ncord w b', ''))
        self.assertEqual(len(cut.cords), 18)
        self.assertIn(heavy(cut), heavy_sets(cut))
        refused(self, NoLine, 2, heavy, stairs(8))


def full_line():
    """Eight rings above one another between pegs, with cords between neighbours and beyond them."""
    rows = ['peg {} {}'.format(name, 0 if name == 'a' else 8 + at) for at, name in enumerate(PEGS)]
    rows += ['ring {} {} -1'.format(name, at + 1) for at, name in enumerate(RINGS)]
    names = 'a' + RINGS + 'b'
    pairs = list(zip(names, names[1:])) + list(zip(names, names[2:])) + [('q', 't'), ('r', 'u'), ('s', 'v')]
    return net_of('net 1', *rows, *['cord {} {}'.format(*pair) for pair in pairs])


if __name__ == '__main__':
    unittest.main()
