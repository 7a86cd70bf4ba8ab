"""Section 11: which weights a picture that hangs tells of."""

import random
import unittest
from fractions import Fraction
from itertools import combinations, product
from math import gcd

from cordsatrest.errors import BadDirection, TooWide
from cordsatrest.hanging import does_hang
from cordsatrest.nets import Net
from cordsatrest.rounds import held
from cordsatrest.weighing import cord_rows, told_back, weight_rows
from support import (
    NONE, ONE, PEGS, RINGS, bound_net, drawn, exact, expected_held, full_stairs, grid_net, knit_nets, least_sets, net_of,
    not_fractions, odd_values, random_net, random_nets, refused, stairs, told, with_weights, word,
)

# h straight between a and b; r and s hang on h and on one another; a cord ties h to a peg beside them
MIXED = net_of(
    'net 2', 'peg a 0 0', 'peg b 4 0', 'peg c 2 9', 'ring r 1 -1 0 0', 'ring h 2 0 0 -5', 'ring s 3 -1 1 0',
    'cord a h', 'cord c h', 'cord h r', 'cord s h', 'cord h b', 'cord r s',
)
DOWN, UP, ASIDE = (NONE, (-1, 1)), (NONE, ONE), (ONE, NONE)
BARE = net_of('net 2', 'peg a 0 0')
FREE = net_of('net 3', 'peg a 0 0 0', 'ring r 1 0 0 0 0 0', 'ring s 2 0 0 1 0 0')


def flat(row):
    """A row of weights as one row of Fractions."""
    return [part for one in row for part in exact(one)]


def whole(parts):
    """The Fractions times a factor above 0, whole, without a common divisor."""
    bottom = 1
    for part in parts:
        bottom = bottom * part.denominator // gcd(bottom, part.denominator)
    tops = [int(part * bottom) for part in parts]
    return tuple(top // gcd(*tops) for top in tops)


def are_sums(row, others):
    """Whether a row is a sum of others, each times a number from 0 on: by going through all sets of them."""
    columns = dict(enumerate(others))
    columns['own'] = [-part for part in row]
    return any('own' in found for found in least_sets(columns))


def least(rows):
    """Those of the rows that are no sums of others, ascending."""
    rows = sorted(set(rows))
    return [row for row in rows if not are_sums(row, [other for other in rows if other != row])]


def loose_of(net):
    stays = expected_held(net) if len(net.cords) < 10 else held(net)
    return [ring for ring in net.rings if ring not in stays]


def rows_by_words(net):
    """cord_rows as flat rows of Fractions, and the numbers of the loose cords."""
    places, loose, found, cords = drawn(net), loose_of(net), [], []
    for number, (one, other) in enumerate(net.cords):
        row = []
        for ring in loose:
            far = {one: other, other: one}.get(ring)
            row += [Fraction(0)] * net.coords if far is None else [a - b for a, b in zip(places[ring], places[far])]
        found.append(row)
        if one in loose or other in loose:
            cords.append(number)
    return found, cords


def told_by_words(net, direction):
    """told_back: of all least pulls and numbers that balance, the numbers that are no sums of others."""
    rows, cords = rows_by_words(net)
    loose = loose_of(net)
    columns = {cord: rows[cord] for cord in cords}
    for ring in loose:
        columns[ring] = [-part if name == ring else Fraction(0) for name in loose for part in exact(direction)]
    found = [[row.get(ring, Fraction(0)) for ring in loose] for row in least_sets(columns)]
    return tuple(tuple((part, 1) for part in row) for row in least([whole(row) for row in found]))


def hung_chain(chance, coords, cords=6):
    """A net with its pegs above and its rings below, in which many weights can be borne."""
    pegs, rings = chance.randint(1, 4), chance.randint(1, 4)
    places = {name: [chance.randint(-4, 4) for _ in range(coords - 1)] + [chance.randint(4, 6)] for name in PEGS[:pegs]}
    for at, name in enumerate(RINGS[:rings]):
        places[name] = [chance.randint(-4, 4) for _ in range(coords - 1)] + [3 - 2 * at]
    lines = ['net {}'.format(coords)]
    for name, place in places.items():
        weight = ['0'] * coords if name in RINGS else []
        lines.append(' '.join(['ring' if weight else 'peg', name] + [word(part) for part in place] + weight))
    pairs = [pair for pair in combinations(places, 2) if pair[1] in RINGS]
    chance.shuffle(pairs)
    return net_of(*lines, *['cord {} {}'.format(*pair) for pair in pairs[:cords]])


def chains(many, cords=6):
    chance = random.Random(21)
    return [hung_chain(chance, number % 3 + 1, cords) for number in range(many)]


def directions(chance, coords):
    down = (NONE,) * (coords - 1) + ((-1, 1),)
    other = tuple(told(Fraction(chance.randint(-2, 2), chance.choice((1, 2, 3)))) for _ in range(coords))
    return [down, down[:-1] + ((3, 7),)] + ([other] if any(part != NONE for part in other) else [])


def heavy(net, direction, numbers):
    """The net with so many times the direction at its loose rings; any weights at the held ones."""
    numbers = dict(zip(loose_of(net), numbers))
    rows = {ring: [numbers.get(ring, 7) * part for part in exact(direction)] for ring in net.rings}
    return with_weights(net, rows)


class TestCordRows(unittest.TestCase):
    def test_by_the_words(self):
        for net in random_nets(40, 7) + knit_nets(40, 8) + [MIXED, BARE, FREE, stairs(2)]:
            own, (expected, _) = cord_rows(net), rows_by_words(net)
            self.assertEqual([flat(row) for row in own], expected)
            self.assertEqual({len(row) for row in own}, {len(loose_of(net))} if net.cords else set())
            self.assertTrue(all(len(part) == net.coords for row in own for part in row))

    def test_held_rings_beside_loose_ones(self):
        none = ((NONE, NONE), (NONE, NONE))
        self.assertEqual(held(MIXED), ('h',))
        self.assertEqual(cord_rows(MIXED), (
            none, none, (((-1, 1), (-1, 1)), none[0]), (none[0], (ONE, (-1, 1))), none, (((-2, 1), NONE), ((2, 1), NONE)),
        ))

    def test_no_loose_ring(self):
        self.assertEqual(cord_rows(stairs(2)), ((),) * 4)
        self.assertEqual([cord_rows(BARE), cord_rows(FREE)], [(), ()])

    def test_weights_do_not_count(self):
        net = Net(MIXED.text.replace('ring r 1 -1 0 0', 'ring r 1 -1 5 1/2'))
        self.assertEqual((cord_rows(net), weight_rows(net)), (cord_rows(MIXED), weight_rows(MIXED)))
        self.assertEqual(told_back(net, DOWN), told_back(MIXED, DOWN))


class TestWeightRows(unittest.TestCase):
    def check(self, net):
        own = weight_rows(net)
        rows, cords = rows_by_words(net)
        expected = least([whole(rows[cord]) for cord in cords])
        self.assertEqual([tuple(int(part) for part in flat(row)) for row in own], expected)
        for row in own:
            self.assertEqual([len(part) for part in row], [net.coords] * len(loose_of(net)))
            self.assertTrue(all(part[1] == 1 for one in row for part in one))
            self.assertEqual(gcd(*[part[0] for one in row for part in one]), 1)

    def test_by_the_words(self):
        for net in random_nets(40, 7) + knit_nets(40, 8) + chains(40) + [MIXED]:
            with self.subTest(net.text):
                self.check(net)

    def test_a_row_between_others(self):
        fork = net_of('net 2', 'peg a -2 1', 'peg b 2 1', 'peg c -1 1', 'peg d 0 7', 'ring r 0 0 0 -1', 'cord a r', 'cord r b',
                      'cord c r', 'cord r d')
        self.assertEqual(weight_rows(fork), ((((-2, 1), (-1, 1)),), (((2, 1), (-1, 1)),)))
        self.check(fork)

    def test_rows_so_many_times_one_another(self):
        net = net_of('net 2', 'peg a 0 0', 'peg b 3 3', 'peg c 1/2 1/2', 'peg d 2 0', 'ring r -1 -1 0 0', 'cord a r', 'cord b r',
                     'cord r c')
        self.assertEqual(weight_rows(net), ((((-1, 1), (-1, 1)),),))
        self.check(Net(net.text + '\ncord d r'))
        self.assertEqual(len(weight_rows(Net(net.text + '\ncord d r'))), 2)

    def test_no_loose_cord(self):
        for net in (BARE, FREE, stairs(3)):
            self.assertEqual(weight_rows(net), ())

    def test_the_picture_hangs_by_sums_of_least_rows(self):
        chance = random.Random(3)
        for net in random_nets(20, 6) + knit_nets(20, 6) + chains(20):
            rows, loose = weight_rows(net), loose_of(net)
            shares = [chance.choice((0, 0, 1, 2, Fraction(1, 2))) for _ in rows]
            total = [Fraction(0)] * (len(loose) * net.coords)
            for share, row in zip(shares, rows):
                total = [a + share * b for a, b in zip(total, flat(row))]
            for more in (Fraction(0), Fraction(1)):
                # with 1 more at some place perhaps no sum any more
                if total:
                    total[chance.randrange(len(total))] += more
                table = {ring: [Fraction(7)] * net.coords for ring in net.rings}
                for at, ring in enumerate(loose):
                    table[ring] = total[at * net.coords:(at + 1) * net.coords]
                borne = with_weights(net, table)
                if borne is not None:
                    right = not any(total) or are_sums(total, [flat(row) for row in rows])
                    self.assertIs(does_hang(borne), right)
                    self.assertTrue(right or more)


class TestToldBack(unittest.TestCase):
    def check(self, net, direction):
        own = told_back(net, direction)
        with self.subTest(net=net.text, direction=direction):
            self.assertEqual(own, told_by_words(net, direction))
            self.check_shape(net, own)
        return own

    def check_shape(self, net, rows):
        self.assertEqual(list(rows), sorted(set(rows)))
        for row in rows:
            self.assertEqual(len(row), len(loose_of(net)))
            self.assertTrue(all(top >= 0 and bottom == 1 for top, bottom in row))
            self.assertEqual(gcd(*[top for top, _ in row]), 1)

    def test_by_the_words(self):
        chance, many = random.Random(2), set()
        for net in random_nets(15, 5) + knit_nets(20, 6) + chains(30, 5):
            for direction in directions(chance, net.coords):
                many.add(len(self.check(net, direction)))
        self.assertLessEqual({0, 1, 2, 3}, many)

    def test_with_these_weights_the_picture_hangs(self):
        chance, seen = random.Random(4), set()
        for net in chains(30) + knit_nets(20, 6):
            for direction in directions(chance, net.coords):
                rows = [exact(row) for row in told_back(net, direction)]
                many = len(loose_of(net))
                shares = [chance.choice((0, 1, 1, Fraction(1, 2))) for _ in rows]
                total = [sum(share * row[at] for share, row in zip(shares, rows)) for at in range(many)]
                wild = [Fraction(chance.choice((0, 1, 2, 5))) for _ in range(many)]
                for numbers in [total, wild] + rows:
                    net_then = heavy(net, direction, numbers)
                    if net_then is not None:
                        right = not any(numbers) or are_sums(numbers, rows)
                        self.assertIs(does_hang(net_then), right)
                        seen.add(right)
        self.assertEqual(seen, {True, False})

    def test_held_rings_beside_loose_ones(self):
        self.assertEqual(self.check(MIXED, DOWN), ())
        # r and s draw apart from one another, as the cord between them does not push
        apart = Net(MIXED.text.replace('ring r 1 -1', 'ring r 2 -1').replace('ring s 3 -1', 'ring s 2 -3'))
        self.assertEqual(self.check(apart, DOWN), ((NONE, ONE), (ONE, NONE)))
        self.assertEqual(self.check(apart, UP), ())
        self.assertEqual(self.check(apart, ASIDE), ())

    def test_no_loose_ring(self):
        for net in (stairs(3), BARE):
            for direction in (DOWN, ASIDE):
                self.assertEqual(told_back(net, direction), ())
        self.assertEqual(told_back(FREE, (ONE, NONE, NONE)), ())

    def test_the_factor_of_a_direction_does_not_count(self):
        for net in chains(9):
            down = (NONE,) * (net.coords - 1)
            rows = [told_back(net, down + (last,)) for last in ((-1, 1), (-1000, 1), (-1, 60), (-7, 60), (-999, 59))]
            self.assertEqual(rows, rows[:1] * 5)

    def test_bounds_of_directions(self):
        for top, bottom, right in ((1000, 1, True), (-1000, 1, True), (1001, 1, False), (-1001, 1, False), (1, 60, True),
                                   (-1, 60, True), (1, 61, False), (-1, 61, False), (1000, 59, True), (1001, 59, False),
                                   (999, 60, False), (997, 60, True)):
            value = (NONE, (top, bottom))
            if right:
                self.assertIsInstance(told_back(MIXED, value), tuple)
            else:
                refused(self, BadDirection, value, told_back, MIXED, value)
                refused(self, BadDirection, value[::-1], told_back, MIXED, value[::-1])

    def test_bad_direction(self):
        for value in odd_values() + [(NONE, NONE), (ONE,), (ONE,) * 3, [NONE, ONE], (1, 1), ONE, (NONE, [1, 1]), ((ONE, ONE),),
                                     ((ONE, ONE),) * 2, (NONE, True)]:
            with self.subTest(value=value):
                refused(self, BadDirection, value, told_back, MIXED, value)
                refused(self, BadDirection, value, told_back, direction=value, net=MIXED)
                refused(self, BadDirection, value, told_back, bound_net(2), value)
        for part in not_fractions():
            for value in ((part, ONE), (ONE, part)):
                refused(self, BadDirection, value, told_back, MIXED, value)

    def test_twelve_loose_cords_and_thirteen(self):
        lines = ['peg {} {} 9'.format(name, at - 6) for at, name in enumerate(PEGS)]
        lines += ['ring r 0 0 0 0', 'ring s 1 -1 0 0']
        cords = ['cord {} r'.format(name) for name in PEGS[:13]]
        net = net_of('net 2', *lines, *cords[:12])
        self.assertEqual(told_back(net, DOWN), ((ONE, NONE),))
        self.assertEqual(told_back(net, ((1, 2), (-3, 1))), ((ONE, NONE),))
        refused(self, TooWide, 13, told_back, net_of('net 2', *lines, *cords), DOWN)
        refused(self, BadDirection, None, told_back, net_of('net 2', *lines, *cords), None)
        # a cord of a held ring beside twelve of loose ones
        lines += ['ring t 1 9 0 0']
        mixed = net_of('net 2', *lines, *cords[:10], 'cord a t', 'cord r s', 'cord t p', 'cord s t')
        self.assertEqual((held(mixed), len(mixed.cords)), (('t',), 14))
        self.assertEqual(told_back(mixed, DOWN), ((NONE, ONE), (ONE, NONE)))
        fourteen = Net(mixed.text + '\ncord k r')
        refused(self, TooWide, 13, told_back, fourteen, DOWN)
        for coords in (1, 2, 3):
            down = (NONE,) * (coords - 1) + ((-1, 1),)
            for net in (bound_net(coords), grid_net(coords)):
                stays = held(net)
                loose = [ends for ends in net.cords if not all(end in net.pegs or end in stays for end in ends)]
                self.assertEqual(len(cord_rows(net)), 20)
                self.assertTrue(0 < len(weight_rows(net)) <= len(loose))
                if len(loose) > 12:
                    refused(self, TooWide, len(loose), told_back, net, down)
                else:
                    self.check_shape(net, told_back(net, down))
            self.check_bounds(coords, down)
        for coords in (2, 3):
            self.assertEqual(weight_rows(full_stairs(coords)), ())

    def check_bounds(self, coords, down):
        chance = random.Random(coords)
        for number in range(10):
            net = hung_chain(chance, coords, 12)
            self.check_shape(net, told_back(net, down))
        for number in range(10):
            net = random_net(chance, coords, 16, 8, 12, fine=True)
            for direction in directions(chance, coords):
                self.check_shape(net, told_back(net, direction))


if __name__ == '__main__':
    unittest.main()
