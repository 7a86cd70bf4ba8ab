"""Section 13: the picture that belongs to told pulls."""

import random
import unittest
from fractions import Fraction

from cordsatrest.errors import Adrift, BadPulls, BadRows, Met, TooFine
from cordsatrest.hanging import does_hang
from cordsatrest.nets import Net
from cordsatrest.placements import picture
from cordsatrest.pulls import left_over
from cordsatrest.settled import settled, settled_places, strain
from support import (
    NONE, ONE, PEGS, RINGS, bound_net, drawn, exact, grid_net, hung_nets, knit_nets, net_of, not_fractions, odd_values,
    pulls_at, put, random_nets, refused, square_between, told, weights, with_weights,
)

WEB = net_of('net 2', 'peg a 0 0', 'peg b 4 0', 'peg c 0 4', 'ring r 2 1 0 -1', 'cord a r', 'cord b r', 'cord c r')
ROW = net_of('net 1', 'peg a 0', 'peg b 6', 'ring s 2 0', 'ring r 1 0', 'ring t 9 0', 'cord a r', 'cord r s', 'cord s b', 'cord t r')
BARE = net_of('net 2', 'peg a 0 0')
GREAT = 10 ** 12 - 1


def some_pulls(chance, net, none=True):
    tops = (0, 1, 1, 2, 5) if none else (1, 2, 5)
    return tuple(told(Fraction(chance.choice(tops), chance.choice((1, 2, 3)))) for _ in net.cords)


def adrift(net, pulls):
    """The rings from which no way of pulled cords leads to a peg, in sequence."""
    tied, found = set(net.pegs), None
    while found != len(tied):
        found = len(tied)
        for pull, ends in zip(pulls, net.cords):
            if pull[0] > 0 and tied & set(ends):
                tied.update(ends)
    return [ring for ring in net.rings if ring not in tied]


def left_at(net, pulls, rows, ring):
    """All that draws at a ring, its weight too, where rings are put to these rows."""
    places, total = put(net, rows), list(weights(net)[ring])
    for pull, (one, other) in zip(exact(pulls), net.cords):
        if ring in (one, other):
            far = other if ring == one else one
            total = [a + pull * (x - y) for a, x, y in zip(total, places[far], places[ring])]
    return total


def strain_by_words(net, pulls, rows):
    total = sum(pull * square_between(put(net, rows), *ends) for pull, ends in zip(exact(pulls), net.cords)) / 2
    return total - sum(a * b for ring, row in zip(net.rings, rows) for a, b in zip(weights(net)[ring], exact(row)))


def text_with(net, rows):
    """The net's text with other places of its rings."""
    lines = []
    for line in net.text.split('\n'):
        words = line.split(' ')
        if words[0] == 'ring':
            words[2:2 + net.coords] = [str(part) for part in exact(rows[net.rings.index(words[1])])]
        lines.append(' '.join(words))
    return '\n'.join(lines)


def fits(part):
    return abs(part[0]) <= 1000 and part[1] <= 60


class TestSettled(unittest.TestCase):
    def check(self, net, pulls):
        loose = adrift(net, pulls)
        if loose:
            for call in (settled_places, settled):
                refused(self, Adrift, loose[0], call, net, pulls)
            return Adrift
        rows = settled_places(net, pulls)
        self.assertEqual([len(row) for row in rows], [net.coords] * len(net))
        for ring in net.rings:
            self.assertEqual(left_at(net, pulls, rows, ring), [0] * net.coords)
        fine = [ring for ring, row in zip(net.rings, rows) if not all(map(fits, row))]
        places = put(net, rows)
        met = [cord for cord, (one, other) in enumerate(net.cords) if places[one] == places[other]]
        if fine:
            refused(self, TooFine, fine[0], settled, net, pulls)
            return TooFine
        if met:
            refused(self, Met, met[0], settled, net, pulls)
            return Met
        found = settled(net, pulls)
        self.assertIs(type(found), Net)
        self.assertEqual(found.text, text_with(net, rows))
        self.assertEqual(picture(found), rows)
        self.assertIs(does_hang(found), True)
        self.assertEqual(left_over(found, pulls, True), ((NONE,) * net.coords,) * len(net))
        self.assertEqual(settled(found, pulls), found)
        return None

    def test_by_the_words(self):
        chance, seen = random.Random(17), set()
        for net in random_nets(60, 8) + knit_nets(60, 9):
            for none in (True, False):
                pulls = some_pulls(chance, net, none)
                with self.subTest(net=net.text, pulls=pulls):
                    seen.add(self.check(net, pulls))
        self.assertEqual(seen, {None, Adrift, TooFine, Met})

    def test_pulls_that_balance_in_the_picture(self):
        chance, many = random.Random(18), 0
        for net in random_nets(40, 6) + knit_nets(40, 8):
            pulls = some_pulls(chance, net)
            heavy = with_weights(net, {ring: [-part for part in pulls_at(net, pulls, ring)] for ring in net.rings})
            if heavy is not None and not adrift(net, pulls):
                self.assertEqual(settled_places(heavy, pulls), picture(heavy))
                self.assertEqual(settled(heavy, pulls), heavy)
                many += 1
        self.assertGreater(many, 15)

    def test_where_rings_are_drawn_plays_no_part(self):
        for line in ('ring r 7 -3 0 -1', 'ring r 1/2 1/3 0 -1', 'ring r 1000 1000 0 -1'):
            net = Net(WEB.text.replace('ring r 2 1 0 -1', line))
            for pulls in ((ONE, ONE, ONE), ((2, 1), ONE, ONE)):
                self.assertEqual(settled_places(net, pulls), settled_places(WEB, pulls))
                self.assertEqual(settled(net, pulls), settled(WEB, pulls))

    def test_adrift(self):
        for pulls, ring in (((ONE, NONE, NONE, ONE), 's'), ((NONE, ONE, ONE, NONE), 't'), ((ONE, ONE, NONE, NONE), 't'),
                            ((NONE, NONE, ONE, ONE), 'r'), ((NONE, ONE, NONE, ONE), 's'), ((NONE,) * 4, 's')):
            for call in (settled_places, settled):
                refused(self, Adrift, ring, call, ROW, pulls)
        self.assertEqual(settled_places(ROW, (ONE, ONE, NONE, ONE)), ((NONE,),) * 3)
        alone = net_of('net 1', 'peg a 0', 'ring q 1 0', 'ring r 2 0', 'cord r a')
        refused(self, Adrift, 'q', settled_places, alone, (ONE,))

    def test_pulls_of_noughts(self):
        self.assertEqual(settled_places(WEB, (NONE, ONE, NONE)), (((4, 1), (-1, 1)),))
        self.assertEqual(settled(WEB, (NONE, ONE, NONE)).text.split('\n')[4], 'ring r 4 -1 0 -1')
        self.assertEqual(settled(WEB, (NONE, ONE, NONE)).cords, WEB.cords)

    def test_no_ring_and_no_cord(self):
        self.assertEqual(settled_places(BARE, ()), ())
        self.assertEqual(settled(BARE, ()), BARE)
        self.assertEqual(strain(BARE, (), ()), NONE)

    def test_bounds_of_a_text(self):
        load = 'net 1\npeg a {}\npeg b 9\nring s {} 0\nring r 5 {}\ncord r a\ncord s b'
        for peg, weight, pull, right in (
                ('0', '1000', ONE, True), ('1', '1000', ONE, False), ('1', '999', ONE, True), ('-1', '-1000', ONE, False),
                ('0', '-1000', ONE, True), ('0', '1', (60, 1), True), ('0', '1', (61, 1), False), ('0', '-1', (61, 1), False),
                ('0', '1/60', ONE, True), ('0', '1/60', (2, 1), False), ('0', '1000', (59, 1), True),
                ('0', '1000', (1, 2), False), ('0', '500', (1, 2), True)):
            net = Net(load.format(peg, 3, weight))
            with self.subTest(net=net.text, pull=pull):
                self.assertEqual(len(settled_places(net, (pull, ONE))), 2)
                if right:
                    refused(self, Met, 1, settled, net, (pull, ONE))
                else:
                    refused(self, TooFine, 'r', settled, net, (pull, ONE))

    def test_too_fine_in_the_sequence_of_rings(self):
        net = net_of('net 2', 'peg a 0 0', 'ring s 1 1 0 1', 'ring r 2 2 1 0', 'ring t 3 3 0 0', 'cord a r', 'cord a s', 'cord t r')
        for pulls, ring in ((((61, 1), (61, 1), ONE), 's'), (((61, 1), ONE, ONE), 'r'), ((ONE, (1, 1001), ONE), 's'),
                            (((1, 1001), ONE, ONE), 'r')):
            refused(self, TooFine, ring, settled, net, pulls)
        refused(self, Met, 2, settled, net, (ONE, ONE, ONE))
        # too fine stands ahead of met
        refused(self, TooFine, 'r', settled, net, ((61, 1), ONE, ONE))

    def test_met(self):
        net = net_of('net 1', 'peg a 0', 'ring r 1 0', 'ring s 2 1', 'ring t 3 1', 'cord r s', 'cord a t', 'cord s t', 'cord r a',
                     'cord a s')
        refused(self, Met, 2, settled, net, (NONE, ONE, NONE, (2, 1), ONE))
        refused(self, Met, 3, settled, Net(net.text.replace('s 2 1', 's 2 2')), (NONE, ONE, NONE, (2, 1), ONE))
        refused(self, Met, 0, settled, Net(net.text.replace('s 2 1', 's 2 0')), (NONE, ONE, NONE, (2, 1), ONE))
        # two rings at one place that no cord ties
        free = net_of('net 1', 'peg a 0', 'ring r 1 1', 'ring s 2 1', 'cord a r', 'cord a s')
        self.assertEqual(settled(free, (ONE, ONE)).text, free.text.replace('s 2 1', 's 1 1'))

    def test_bad_pulls(self):
        wrong = [(ONE,) * 2, (ONE,) * 4, [ONE] * 3, ((-1, 1), ONE, ONE), (1, 1, 1), (), ((ONE,) * 3,), (ONE, ONE, [1, 1])]
        for value in odd_values() + wrong + [(ONE, ONE, part) for part in not_fractions()]:
            with self.subTest(value=value):
                for call in (settled_places, settled):
                    refused(self, BadPulls, value, call, WEB, value)
                    refused(self, BadPulls, value, call, pulls=value, net=WEB)
                refused(self, BadPulls, value, strain, WEB, value, None)
                refused(self, BadPulls, value, strain, rows=(), pulls=value, net=WEB)

    def test_at_bounds(self):
        chance = random.Random(6)
        for coords in (1, 2, 3):
            for net in (bound_net(coords), grid_net(coords)):
                pulls = tuple((chance.randint(1, GREAT), 1) for _ in net.cords)
                loose = adrift(net, pulls)
                if loose:
                    refused(self, Adrift, loose[0], settled_places, net, pulls)
                    continue
                rows = settled_places(net, pulls)
                for ring in net.rings:
                    self.assertEqual(left_at(net, pulls, rows, ring), [0] * coords)
                refused(self, TooFine, net.rings[0], settled, net, pulls)
                self.assertLess(Fraction(*strain(net, pulls, rows)), Fraction(*strain(net, pulls, picture(net))))
            self.assertEqual(self.check(ladder(coords), (ONE,) * 20), None)


def ladder(coords):
    """A net at its bounds whose rings stand where pulls of 1 balance, on pegs to both sides."""
    aside = ' 0' * (coords - 1)
    rows = ['peg {} {}{}'.format(name, at, aside) for at, name in enumerate(PEGS)]
    rows += ['ring {} {}{} {}{}'.format(name, at + 20, aside, 2 * at, aside) for at, name in enumerate(RINGS)]
    pairs = [(name, RINGS[at % 8]) for at, name in enumerate(PEGS)]
    pairs += [('a', 'r'), ('b', 's'), ('c', 't'), ('d', 'u')]
    return net_of('net {}'.format(coords), *rows, *['cord {} {}'.format(*pair) for pair in pairs])


class TestStrain(unittest.TestCase):
    def test_by_the_words(self):
        chance = random.Random(19)
        for net in random_nets(30, 7) + knit_nets(30, 8):
            pulls = some_pulls(chance, net)
            for many in {net.coords, 3, 12}:
                rows = tuple(tuple(told(Fraction(chance.randint(-9, 9), chance.randint(1, 3))) for _ in range(many))
                             for _ in net.rings)
                self.assertEqual(strain(net, pulls, rows), told(strain_by_words(net, pulls, rows)))
                self.check_least(net, pulls, rows, many)
        for net in hung_nets(6):
            self.assertEqual(strain(net, (NONE,) * len(net.cords), ((NONE,) * net.coords,) * len(net)), NONE)

    def check_least(self, net, pulls, rows, many):
        """Any rows have more strain than the settled places, by what the section says."""
        if adrift(net, pulls):
            return
        best = tuple(row + (NONE,) * (many - net.coords) for row in settled_places(net, pulls))
        shifts = {name: [Fraction(0)] * many for name in drawn(net)}
        for ring, row, place in zip(net.rings, rows, best):
            shifts[ring] = [a - b for a, b in zip(exact(row), exact(place))]
        more = sum(pull * square_between(shifts, *ends) for pull, ends in zip(exact(pulls), net.cords)) / 2
        own = Fraction(*strain(net, pulls, rows))
        self.assertEqual(own - Fraction(*strain(net, pulls, best)), more)
        self.assertIs(more > 0, rows != best)

    def test_cords_may_be_longer(self):
        self.assertEqual(strain(ROW, (ONE, NONE, NONE, NONE), ((NONE,), ((1000, 1),), (NONE,))), (500000, 1))

    def test_bad_rows(self):
        pulls = (ONE,) * 3
        good = ((ONE, ONE),)
        self.assertEqual(strain(WEB, pulls, good), (12, 1))
        for value in odd_values() + [(), (ONE,), ((ONE,),), ((ONE,) * 13,), [(ONE, ONE)], ([ONE, ONE],), good * 2, ((1, 1),), (good,)]:
            with self.subTest(value=value):
                refused(self, BadRows, value, strain, WEB, pulls, value)
                refused(self, BadRows, value, strain, rows=value, net=WEB, pulls=pulls)
        for part in not_fractions():
            refused(self, BadRows, ((ONE, part),), strain, WEB, pulls, ((ONE, part),))
        rows = ((ONE, ONE),) * 2 + ((ONE,),)
        refused(self, BadRows, rows, strain, ROW, (ONE,) * 4, rows)
        self.assertEqual(strain(WEB, pulls, ((ONE, ONE) + (NONE,) * 10,)), (12, 1))


if __name__ == '__main__':
    unittest.main()
