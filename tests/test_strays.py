"""Section 10: how far rings can stray if cords are let out a little."""

import random
import unittest
from fractions import Fraction
from itertools import combinations, product

from cordsatrest.errors import BadLack, BadMore, BadPulls, BadRows, NoName, NotBalanced
from cordsatrest.nets import Net
from cordsatrest.placements import picture
from cordsatrest.strays import bend, resistance, score_above, stray
from support import (
    NONE, ONE, bound_net, drawn, exact, grid_net, knit_nets, net_of, not_fractions, odd_values, pulls_at, put, random_nets,
    refused, square_between, stairs, told, weights, with_weights,
)

LINE = net_of('net 1', 'peg a 0', 'peg b 3', 'ring r 1 0', 'cord a r', 'cord r b')
LINED = ((2, 1), ONE)
# r on pegs from two sides, s on r and a peg, t on s alone; u and v pull at one another; w stands alone
WEB = net_of(
    'net 2', 'peg a 0 0', 'peg b 4 0', 'peg c 0 5', 'ring r 1 0 0 0', 'ring s 1 1 0 0', 'ring t 1 2 0 0', 'ring u 9 9 0 0',
    'ring v 8 9 0 0', 'ring w 7 7 0 0', 'cord a r', 'cord b r', 'cord r s', 'cord c s', 'cord t s', 'cord u v', 'cord w v',
)
WEBBED = ((2, 1), ONE, (3, 2), ONE, (1, 4), (5, 1), NONE)
BARE = net_of('net 2', 'peg a 0 0', 'peg b 1 0')


def random_pulls(chance, net):
    return tuple(told(Fraction(chance.choice((0, 1, 1, 2, 5)), chance.choice((1, 2, 3)))) for _ in net.cords)


def balanced(chance, net):
    """(the net with weights that these pulls bear at every ring, the pulls)."""
    while True:
        pulls = random_pulls(chance, net)
        found = with_weights(net, {ring: [-part for part in pulls_at(net, pulls, ring)] for ring in net.rings})
        if found is not None:
            return found, pulls


def balanced_nets(many, most_cords=7):
    chance = random.Random(12)
    return [balanced(chance, net) for pair in zip(random_nets(many, most_cords), knit_nets(many, most_cords)) for net in pair]


def random_rows(chance, net, many):
    return tuple(tuple(told(Fraction(chance.randint(-9, 9), chance.randint(1, 4))) for _ in range(many)) for _ in net.rings)


def strays(net, rows):
    many = len(rows[0]) if rows else net.coords
    places = {name: place + [Fraction(0)] * (many - net.coords) for name, place in drawn(net).items()}
    return {name: [a - b for a, b in zip(place, places[name])] for name, place in put(net, rows).items()}


def gain(net, rows):
    """What the score in rows is above the picture's."""
    shifts = strays(net, rows)
    return sum(a * b for ring in net.rings for a, b in zip(weights(net)[ring], shifts[ring]))


def components(knots, edges):
    """For each knot its component's first knot."""
    heads = {knot: knot for knot in knots}
    for _, one, other in edges:
        low, high = sorted((heads[one], heads[other]))
        heads = {knot: low if head == high else head for knot, head in heads.items()}
    return heads


def expected_resistance(net, pulls, one, other):
    """By Kirchhoff's rule: forests that part one and other, by trees; each weighs the product of its pulls."""
    knot = {name: name if name in net.rings else 'pegs' for name in net.pegs + net.rings}
    one, other = knot[one], knot[other]
    if one == other:
        return NONE
    edges = [(pull, knot[a], knot[b]) for pull, (a, b) in zip(exact(pulls), net.cords) if pull > 0]
    whole = components(list(net.rings) + ['pegs'], edges)
    if whole[one] != whole[other]:
        return None
    knots = [name for name in whole if whole[name] == whole[one]]
    edges = [edge for edge in edges if edge[1] in knots]
    trees, forests = 0, 0
    for many in (len(knots) - 1, len(knots) - 2):
        for chosen in combinations(edges, many):
            heads = components(knots, chosen)
            weight = Fraction(1)
            for pull, _, _ in chosen:
                weight *= pull
            if len(set(heads.values())) == len(knots) - many:
                if many == len(knots) - 1:
                    trees += weight
                elif heads[one] != heads[other]:
                    forests += weight
    return told(forests / trees)


class TestBend(unittest.TestCase):
    def test_by_the_words(self):
        chance = random.Random(8)
        for net, pulls in balanced_nets(30):
            for many in {net.coords, net.coords + 1, 12}:
                rows = random_rows(chance, net, many)
                shifts, total = strays(net, rows), Fraction(0)
                grown = Fraction(0)
                for pull, (one, other) in zip(exact(pulls), net.cords):
                    total += pull * square_between(shifts, one, other)
                    grown += pull * (square_between(put(net, rows), one, other) - square_between(drawn(net), one, other))
                with self.subTest(net=net.text, rows=rows):
                    self.assertEqual(bend(net, pulls, rows), told(total))
                    self.assertEqual(grown - 2 * gain(net, rows), total)

    def test_the_picture_is_not_bent(self):
        for net, pulls in balanced_nets(5):
            self.assertEqual(bend(net, pulls, picture(net)), NONE)
            deep = tuple(row + (NONE,) * (12 - net.coords) for row in picture(net))
            self.assertEqual(bend(net, pulls, deep), NONE)

    def test_cords_may_be_longer(self):
        self.assertEqual(bend(LINE, LINED, (((100, 1),),)), (3 * 99 ** 2, 1))

    def test_no_ring(self):
        self.assertEqual(bend(BARE, (), ()), NONE)
        self.assertEqual(score_above(BARE, (), ()), NONE)
        refused(self, BadRows, (ONE,), bend, BARE, (), (ONE,))

    def test_bad_rows(self):
        row = (((1, 1), (1, 1)),)
        for value in odd_values() + [((),), (ONE,), ((ONE,), (ONE,)), ((ONE,) * 13,), [(ONE,)], ([ONE],), ONE, ((1,),), (row,)]:
            with self.subTest(value=value):
                refused(self, BadRows, value, bend, LINE, LINED, value)
                refused(self, BadRows, value, bend, rows=value, net=LINE, pulls=LINED)
        for part in not_fractions():
            refused(self, BadRows, ((part,),), bend, LINE, LINED, ((part,),))
        pulls = (NONE,) * 7
        good = ((ONE,) * 2,) * 6
        self.assertEqual(bend(WEB, pulls, good), NONE)
        for value in (good[:5], good + good[:1], good[:5] + ((ONE,) * 3,), ((ONE,),) * 6, ((ONE,) * 13,) * 6):
            refused(self, BadRows, value, bend, WEB, pulls, value)
        self.assertEqual(bend(WEB, pulls, ((ONE,) * 12,) * 6), NONE)


class TestResistance(unittest.TestCase):
    def test_by_the_words(self):
        chance = random.Random(5)
        seen = set()
        for net in random_nets(40, 7) + knit_nets(40, 7) + [WEB]:
            pulls = random_pulls(chance, net)
            names = net.pegs[:2] + net.rings
            for one, other in product(names, names):
                with self.subTest(net=net.text, pulls=pulls, one=one, other=other):
                    own = resistance(net, pulls, one, other)
                    self.assertEqual(own, expected_resistance(net, pulls, one, other))
                    seen.add(own)
        self.assertLessEqual({None, NONE, ONE}, seen)

    def test_three_names_and_single_cords(self):
        for net, pulls in balanced_nets(15):
            names = net.pegs[:1] + net.rings
            table = {pair: resistance(net, pulls, *pair) for pair in product(names, names)}
            for one, middle, other in product(names, names, names):
                parts = [table[pair] for pair in ((one, other), (one, middle), (middle, other))]
                if None not in parts:
                    whole, first, second = exact(parts)
                    self.assertLessEqual(whole, first + second)
            for pull, (one, other) in zip(pulls, net.cords):
                if pull[0] > 0:
                    self.assertLessEqual(Fraction(*pull) * Fraction(*resistance(net, pulls, one, other)), 1)

    def test_chains_and_side_by_side(self):
        # two pegs side by side: 2 and 1 make 3; then a chain
        pairs = [('a', 'r'), ('b', 'r'), ('r', 'c')]
        self.assertEqual(len({resistance(WEB, WEBBED, *pair) for pair in pairs}), 1)
        # from r: 3 straight, or 3/2 and 1 behind one another, which is 3/5
        self.assertEqual(resistance(WEB, WEBBED, 'r', 'a'), told(1 / (3 + Fraction(3, 5))))
        self.assertEqual(resistance(WEB, WEBBED, 't', 's'), (4, 1))
        self.assertEqual(resistance(WEB, WEBBED, 't', 'b'), told(4 + Fraction(1, 2)))
        self.assertEqual(resistance(WEB, WEBBED, 'u', 'v'), (1, 5))
        chain = net_of('net 1', 'peg a 0', *['ring {} {} 0'.format(name, at + 1) for at, name in enumerate('rstuvwxy')],
                       *['cord {} {}'.format(*pair) for pair in zip('arstuvwx', 'rstuvwxy')])
        pulls = tuple((1, number) for number in range(1, 9))
        self.assertEqual(resistance(chain, pulls, 'a', 'y'), (36, 1))
        self.assertEqual(resistance(chain, pulls, 't', 'v'), (9, 1))

    def test_the_same_name_and_two_pegs(self):
        none = (NONE,) * 7
        for name in WEB.pegs + WEB.rings:
            self.assertEqual(resistance(WEB, none, name, name), NONE)
            self.assertEqual(resistance(WEB, WEBBED, name, name), NONE)
        for pair in product(WEB.pegs, WEB.pegs):
            self.assertEqual(resistance(WEB, none, *pair), NONE)
        self.assertEqual(resistance(BARE, (), 'a', 'b'), NONE)

    def test_no_way(self):
        for one, other in (('u', 'r'), ('a', 'u'), ('v', 'b'), ('w', 'v'), ('w', 'a'), ('t', 'w')):
            for pair in ((one, other), (other, one)):
                self.assertIs(resistance(WEB, WEBBED, *pair), None)
        self.assertIs(resistance(WEB, (NONE,) * 7, 'r', 's'), None)

    def test_the_pegs_are_a_way(self):
        net = net_of('net 1', 'peg a 0', 'peg b 9', 'ring r 1 0', 'ring s 8 0', 'cord a r', 'cord s b')
        self.assertEqual(resistance(net, (ONE, (1, 2)), 'r', 's'), (3, 1))

    def test_pulls_need_not_balance(self):
        self.assertEqual(resistance(LINE, (ONE, ONE), 'r', 'a'), (1, 2))


class TestStray(unittest.TestCase):
    def test_by_the_words(self):
        chance = random.Random(9)
        for net, pulls in balanced_nets(20):
            more = random_pulls(chance, net)
            lack = told(Fraction(chance.choice((0, 0, 1, 3)), 2))
            extra = sum(a * b for a, b in zip(exact(pulls), exact(more)))
            self.assertEqual(score_above(net, pulls, more), told(extra / 2))
            for one, other in product(net.pegs[:1] + net.rings, net.rings):
                way = resistance(net, pulls, one, other)
                expected = None if way is None else told(Fraction(*way) * (extra + 2 * Fraction(*lack)))
                self.assertEqual(stray(net, pulls, more, lack, one, other), expected)

    def test_rows_stray_no_further(self):
        chance = random.Random(10)
        for net, pulls in balanced_nets(20):
            for many in (net.coords, net.coords + 2):
                rows = random_rows(chance, net, many)
                # as much more as these rows need
                grown = [square_between(put(net, rows), *ends) - square_between(drawn(net), *ends) for ends in net.cords]
                more = tuple(told(max(part, Fraction(0))) for part in grown)
                lack = told(max(-gain(net, rows), Fraction(0)))
                shifts = strays(net, rows)
                self.assertLessEqual(gain(net, rows), Fraction(*score_above(net, pulls, more)))
                for one, other in product(net.pegs[:1] + net.rings, net.rings):
                    bound = stray(net, pulls, more, lack, one, other)
                    if bound is not None:
                        way, bent = resistance(net, pulls, one, other), bend(net, pulls, rows)
                        apart = square_between(shifts, one, other)
                        self.assertLessEqual(apart, Fraction(*way) * Fraction(*bent))
                        self.assertLessEqual(apart, Fraction(*bound))

    def test_held_rings_need_balance_too(self):
        net = net_of('net 2', 'peg a 0 0', 'peg b 4 0', 'ring m 2 0 0 -1', 'cord a m', 'cord b m')
        for pulls in ((NONE, NONE), (ONE, ONE)):
            refused(self, NotBalanced, pulls, bend, net, pulls, picture(net))
            refused(self, NotBalanced, pulls, stray, net, pulls, (ONE, ONE), NONE, 'm', 'a')
            refused(self, NotBalanced, pulls, score_above, net, pulls, (ONE, ONE))
        light = Net(net.text.replace('0 -1', '0 0'))
        self.assertEqual(stray(light, (ONE, ONE), (ONE, NONE), NONE, 'm', 'a'), (1, 2))
        refused(self, NotBalanced, (ONE, (2, 1)), score_above, light, (ONE, (2, 1)), (ONE, ONE))

    def test_lack_0(self):
        self.assertEqual(stray(LINE, LINED, (NONE, NONE), NONE, 'r', 'a'), NONE)
        self.assertEqual(stray(LINE, LINED, (NONE, NONE), (3, 2), 'r', 'a'), ONE)
        self.assertEqual(stray(LINE, LINED, (ONE, NONE), (3, 2), 'a', 'r'), (5, 3))
        self.assertEqual(stray(LINE, LINED, (ONE, NONE), (3, 2), 'a', 'b'), NONE)
        self.assertIs(stray(LINE, (NONE, NONE), (ONE, NONE), (3, 2), 'a', 'r'), None)


class TestWrongValues(unittest.TestCase):
    def calls(self, pulls=LINED, more=(ONE, ONE), lack=NONE, one='r', other='a', rows=((ONE,),)):
        """The arguments of each function that has them."""
        return {
            bend: {'pulls': pulls, 'rows': rows}, resistance: {'pulls': pulls, 'one': one, 'other': other},
            stray: {'pulls': pulls, 'more': more, 'lack': lack, 'one': one, 'other': other},
            score_above: {'pulls': pulls, 'more': more},
        }

    def check(self, error, names, value, functions, **others):
        for name in names.split():
            for call, args in self.calls(**{name: value, **others}).items():
                if call in functions:
                    with self.subTest(value=value, call=call):
                        refused(self, error, value, call, LINE, *args.values())
                        refused(self, error, value, call, net=LINE, **args)

    def test_bad_pulls(self):
        everything = (bend, resistance, stray, score_above)
        wrong = [(ONE,), (ONE,) * 3, [ONE, ONE], ((-1, 1), ONE), (ONE, (-1, 9)), (1, 1), ((2, 1), [1, 1]), ()]
        for value in odd_values() + wrong + [(part, ONE) for part in not_fractions()]:
            self.check(BadPulls, 'pulls', value, everything)
            self.check(BadPulls, 'pulls', value, everything, more=None, lack=None, one=None, other=None, rows=None)

    def test_not_balanced(self):
        for value in ((ONE, ONE), (NONE, ONE), ((2, 1), (3, 2)), (NONE, (1, 10 ** 11))):
            self.check(NotBalanced, 'pulls', value, (bend, stray, score_above))
            self.check(NotBalanced, 'pulls', value, (bend, stray, score_above), more=None, lack=1, one=0, other=0, rows=[])
        self.check(BadMore, 'more', None, (stray, score_above), pulls=(NONE, NONE))

    def test_bad_more(self):
        wrong = [(ONE,), (ONE,) * 3, [ONE, ONE], ((-1, 1), ONE), (1, 1), ((2, 1), [1, 1]), ()]
        for value in odd_values() + wrong + [(ONE, part) for part in not_fractions()]:
            self.check(BadMore, 'more', value, (stray, score_above))
            self.check(BadMore, 'more', value, (stray, score_above), lack=None, one=None, other=None)

    def test_bad_lack(self):
        for value in odd_values() + not_fractions() + [(-1, 1), (-1, 1000), [0, 1], 0, 1]:
            self.check(BadLack, 'lack', value, (stray,))
            self.check(BadLack, 'lack', value, (stray,), one=0, other=None)

    def test_no_name(self):
        for value in odd_values() + ['z', 'R', 'ra', ('r',), ['r'], 0]:
            self.check(NoName, 'one other', value, (resistance, stray))
            self.check(NoName, 'one', value, (resistance, stray), other='nobody')
            self.check(NoName, 'one other', value, (resistance, stray), pulls=(NONE, NONE))

    def test_sequence(self):
        wrong = {'pulls': 0, 'more': 1, 'lack': 2, 'one': 3, 'other': 4, 'rows': 5}
        refused(self, BadPulls, 0, stray, LINE, *self.calls(**wrong)[stray].values())
        wrong['pulls'] = (ONE, ONE)
        refused(self, NotBalanced, (ONE, ONE), stray, LINE, *self.calls(**wrong)[stray].values())
        wrong['pulls'] = LINED
        for name, error, good in (('more', BadMore, LINED), ('lack', BadLack, NONE), ('one', NoName, 'a'), ('other', NoName, 'b')):
            refused(self, error, wrong[name], stray, LINE, *self.calls(**wrong)[stray].values())
            wrong[name] = good
        self.assertEqual(stray(LINE, *self.calls(**wrong)[stray].values()), NONE)


class TestBounds(unittest.TestCase):
    def test_at_bounds(self):
        chance = random.Random(6)
        for coords in (1, 2, 3):
            for net in (grid_net(coords), bound_net(coords), stairs(8)):
                pulls = tuple((chance.randint(1, 10 ** 12 - 1), 1) for _ in net.cords)
                for one, other in product(net.rings, net.rings + net.pegs[:1]):
                    way = resistance(net, pulls, one, other)
                    self.assertTrue(way is None or Fraction(*way) >= 0)
                    self.assertEqual(resistance(net, pulls, other, one), way)
            net = grid_net(coords)
            pulls = tuple((at % 3, 1) for at in range(20))
            heavy = with_weights(net, {ring: [-part for part in pulls_at(net, pulls, ring)] for ring in net.rings})
            rows = random_rows(chance, heavy, 12)
            self.assertEqual(bend(heavy, pulls, picture(heavy)), NONE)
            self.assertGreater(Fraction(*bend(heavy, pulls, rows)), 0)
            way = resistance(heavy, pulls, 'q', 'x')
            self.assertEqual(stray(heavy, pulls, pulls, ONE, 'q', 'x'),
                             told(Fraction(*way) * (sum(at % 3 * (at % 3) for at in range(20)) + 2)))


if __name__ == '__main__':
    unittest.main()
