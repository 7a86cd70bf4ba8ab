"""Section 15: nets made of nets."""

import random
import unittest
from fractions import Fraction

from cordsatrest.changes import cut_off, joined, left_out, mapped, shadow
from cordsatrest.errors import (
    BadKept, BadTable, Beyond, NoRing, NotStraight, Tied, Together, TooMany, Unlike, Weighed,
)
from cordsatrest.hanging import does_hang, hangs, shows_hangs
from cordsatrest.lots import lot_rounds, lots
from cordsatrest.nets import Net
from cordsatrest.rounds import held, round_of, rounds, shows_rounds
from support import (
    PEGS, RINGS, bound_net, drawn, exact, full_stairs, grid_net, hung_nets, knit_nets, net_of, not_fractions, odd_values,
    random_nets, refused, stairs, told, weights, word,
)

PAIR = net_of('net 2', 'peg a 0 0', 'peg b 4 0', 'ring m 2 0 0 -1', 'ring s 2 -2 0 -1', 'cord a m', 'cord b m', 'cord m s')


def built(coords, pegs, rings, cords):
    """The text of a net of these (name, place), (name, place, weight) and cords."""
    lines = ['net {}'.format(coords)] + ['peg {} {}'.format(name, ' '.join(map(word, place))) for name, place in pegs]
    lines += ['ring {} {}'.format(name, ' '.join(map(word, place + weight))) for name, place, weight in rings]
    return '\n'.join(lines + ['cord {} {}'.format(*cord) for cord in cords])


def kept_rings(net):
    return [(ring, drawn(net)[ring], weights(net)[ring]) for ring in net.rings]


def kept_pegs(net):
    return [(peg, drawn(net)[peg]) for peg in net.pegs]


def pairs_of(names):
    return [(one, other) for one in names for other in names]


def lot_table(net):
    """For each pair of names the number of the round that brings them into one lot; fast, as rounds are told once."""
    behind = [[net.pegs + held(net)]] + [told_lots for _, told_lots in lot_rounds(net)]
    found = {}
    for pair in pairs_of(net.pegs + net.rings):
        numbers = [at for at, parts in enumerate(behind) if any(set(pair) <= set(part) for part in parts)]
        found[pair] = 0 if pair[0] == pair[1] else min(numbers, default=None)
    return found


def some_nets():
    return random_nets(60, 8, 3) + knit_nets(90, 9, 5) + [stairs(3), PAIR]


def some_hung(many=90):
    return hung_nets(many, 7, 9) + [PAIR, net_of(
        'net 2', 'peg p 0 5', 'ring k 0 3 0 -1', 'ring u 1 0 -1 0', 'ring v 3 0 1 0', 'cord p k', 'cord u v', 'cord k u')]


class TestCutOff(unittest.TestCase):
    def check(self, net):
        found, fast = cut_off(net), held(net)
        pegs = kept_pegs(net) + [(ring, drawn(net)[ring]) for ring in net.rings if ring in fast]
        rings = [part for part in kept_rings(net) if part[0] not in fast]
        cords = [cord for cord in net.cords if not set(cord) <= set(net.pegs + fast)]
        self.assertIs(type(found), Net)
        self.assertEqual(found.text, built(net.coords, pegs, rings, cords))
        return found

    def test_by_the_words(self):
        many = [len(held(net)) for net in some_nets() if self.check(net)]
        self.assertEqual(min(many), 0)
        self.assertGreater(max(many), 2)

    def test_the_rest_hangs_alike(self):
        for net in some_hung() + some_nets():
            with self.subTest(net.text):
                found = cut_off(net)
                self.assertEqual(held(found), ())
                self.assertEqual(does_hang(found), does_hang(net))
                if does_hang(net):
                    self.assertEqual(lot_table(found), lot_table(net))

    def test_no_ring_is_held(self):
        net = net_of('net 1', 'peg a 0', 'ring r 1 1/7', 'ring s 2 -1', 'cord a r', 'cord r s')
        self.assertEqual(cut_off(net), net)
        bare = net_of('net 3', 'peg a 0 1 2')
        self.assertEqual(cut_off(bare), bare)

    def test_all_rings_are_held(self):
        net = stairs(4)
        found = self.check(net)
        self.assertEqual((found.rings, found.cords, found.pegs), ((), (), net.pegs + net.rings))

    def test_weights_and_cords_of_held_rings_go(self):
        found = cut_off(PAIR)
        self.assertEqual(found.text, 'net 2\npeg a 0 0\npeg b 4 0\npeg m 2 0\nring s 2 -2 0 -1\ncord m s')
        net = Net(PAIR.text + '\ncord b s\ncord s a')
        self.assertEqual(cut_off(net).cords, (('m', 's'), ('b', 's'), ('s', 'a')))
        # a cord of two held rings joins two pegs then
        line = net_of('net 1', 'peg a 0', 'peg b 3', 'ring s 2 5', 'ring r 1 7', 'cord a r', 'cord r s', 'cord s b')
        self.assertEqual(cut_off(line).text, 'net 1\npeg a 0\npeg b 3\npeg s 2\npeg r 1')

    def test_sixteen_and_seventeen_stand_fast(self):
        for pegs, rings in ((14, 2), (15, 1), (8, 8)):
            self.assertEqual(len(self.check(self.held_line(pegs, rings)).pegs), 16)
        for pegs, rings in ((15, 2), (16, 1), (9, 8), (16, 8)):
            refused(self, TooMany, pegs + rings, cut_off, self.held_line(pegs, rings))
            refused(self, TooMany, pegs + rings, cut_off, net=self.held_line(pegs, rings))
        # sixteen pegs, and no held ring
        net = net_of('net 1', *['peg {} {}'.format(name, at) for at, name in enumerate(PEGS)], 'ring r 20 1', 'cord p r')
        self.assertEqual(cut_off(net), net)

    def held_line(self, pegs, rings):
        """A net of so many pegs, and so many rings between the first two of them."""
        lines = ['peg {} {}'.format(name, 50 * at) for at, name in enumerate(PEGS[:pegs])]
        lines += ['ring {} {} 3'.format(name, 1 + at) for at, name in enumerate(RINGS[:rings])]
        return net_of('net 1', *lines, *['cord {} {}'.format(peg, ring) for ring in RINGS[:rings] for peg in 'ab'])


def is_between(place, one, other):
    """Whether place is one and a share, above 0 and below 1, of the way to other."""
    at = next((at for at in range(len(one)) if one[at] != other[at]), None)
    if at is None:
        return False
    share = Fraction(place[at] - one[at]) / (other[at] - one[at])
    return 0 < share < 1 and all(c == a + share * (b - a) for a, b, c in zip(one, other, place))


def expected_left_out(net, ring):
    """The text, or the error and its value, by the words."""
    if any(weights(net)[ring]):
        return Weighed, ring
    cords = [cord for cord in net.cords if ring in cord]
    ends = [one if other == ring else other for one, other in cords]
    place = drawn(net)[ring]
    if len(ends) != 2 or not is_between(place, drawn(net)[ends[0]], drawn(net)[ends[1]]):
        return NotStraight, ring
    tied = [set(cord) for cord in net.cords]
    if set(ends) <= set(net.pegs) or set(ends) in tied:
        return Tied, tuple(ends)
    left = [tuple(ends) if cord == cords[0] else cord for cord in net.cords if cord != cords[1]]
    rings = [part for part in kept_rings(net) if part[0] != ring]
    return built(net.coords, kept_pegs(net), rings, left)


class TestLeftOut(unittest.TestCase):
    def check(self, net):
        told_out = []
        for ring in net.rings:
            expected = expected_left_out(net, ring)
            if isinstance(expected, str):
                found = left_out(net, ring)
                self.assertIs(type(found), Net)
                self.assertEqual(found.text, expected)
                told_out.append((ring, found))
            else:
                refused(self, expected[0], expected[1], left_out, net, ring)
        return told_out

    def nets(self):
        chance, found = random.Random(4), []
        for net in knit_nets(120, 9, 15) + random_nets(30, 8, 16) + hung_nets(40, 7, 17):
            found.append(self.with_knot(chance, net))
        return found

    def with_knot(self, chance, net):
        """The net with a further ring on one of its cords, where it has one that is not too fine for that."""
        lines = net.text.split('\n')
        if not net.cords:
            return net
        at = chance.randrange(len(net.cords))
        one, other = net.cords[at]
        share = Fraction(1, chance.choice((2, 3)))
        place = [a + share * (b - a) for a, b in zip(drawn(net)[one], drawn(net)[other])]
        head = len(lines) - len(net.cords)
        lines[head + at] = 'cord {} {}'.format(*chance.sample((one, 'knot'), 2))
        lines.append('cord {} {}'.format(*chance.sample((other, 'knot'), 2)))
        lines.insert(head, 'ring knot {}'.format(' '.join(map(word, place + [0] * net.coords))))
        return net_of(*lines)

    def test_by_the_words(self):
        many = sum(len(self.check(net)) for net in self.nets())
        self.assertGreater(many, 60)

    def test_nothing_alters_for_others(self):
        for net in self.nets():
            for ring, found in self.check(net):
                with self.subTest(net=net.text, ring=ring):
                    for other in found.rings:
                        self.assertEqual(round_of(found, other), round_of(net, other))
                    self.assertEqual(does_hang(found), does_hang(net))
                    if does_hang(net):
                        left = [tuple(name for name in lot if name != ring) for lot in lots(net)]
                        self.assertEqual(sorted(lots(found)), sorted(lot for lot in left if lot))

    def test_place_and_sequence_of_the_new_cord(self):
        rows = ['net 2', 'peg a 0 0', 'peg c 0 6', 'ring r 0 2 0 0', 'ring t 0 3 1 0']
        for first, second, cord in (('a r', 'r t', 'a t'), ('r t', 'a r', 't a'), ('t r', 'r a', 't a'), ('r a', 't r', 'a t')):
            net = net_of(*rows, 'cord ' + first, 'cord c t', 'cord ' + second)
            self.assertEqual(left_out(net, 'r').text.split('\n')[3:], ['ring t 0 3 1 0', 'cord ' + cord, 'cord c t'])

    def test_weighed(self):
        line = ['net 2', 'peg a 0 0', 'ring s 4 4 0 0', 'cord a r', 'cord r s']
        for weight in ('0 1', '-1/60 0', '1 1'):
            net = net_of(*line[:3], 'ring r 1 1 ' + weight, *line[3:])
            refused(self, Weighed, 'r', left_out, net, 'r')
            refused(self, Weighed, 'r', left_out, ring='r', net=net)

    def test_one_and_three_cords(self):
        net = net_of('net 1', 'peg a 0', 'peg b 9', 'ring r 2 0', 'ring s 4 0', 'ring t 5 0', 'ring u 6 0',
                     'cord a r', 'cord r s', 'cord r t', 'cord b s')
        refused(self, NotStraight, 'r', left_out, net, 'r')
        refused(self, NotStraight, 't', left_out, net, 't')
        refused(self, NotStraight, 'u', left_out, net, 'u')
        self.assertEqual(left_out(net, 's').cords, (('a', 'r'), ('r', 'b'), ('r', 't')))

    def test_not_straight(self):
        for place in ('2 1', '-1 0', '5 0', '7 0', '0 3', '2 1/60'):
            net = net_of('net 2', 'peg a 0 0', 'ring s 4 0 0 0', 'ring r ' + place + ' 0 0', 'cord a r', 'cord r s')
            refused(self, NotStraight, 'r', left_out, net, 'r')
        for place in ('1 0', '3 0', '1/60 0'):
            net = net_of('net 2', 'peg a 0 0', 'ring s 4 0 0 0', 'ring r ' + place + ' 0 0', 'cord a r', 'cord r s')
            self.assertEqual(left_out(net, 'r').cords, (('a', 's'),))
        # both other ends at one place
        net = net_of('net 2', 'peg a 0 0', 'ring s 0 0 0 0', 'ring r 1 0 0 0', 'cord a r', 'cord r s')
        refused(self, NotStraight, 'r', left_out, net, 'r')
        # straight in two coordinates of three
        net = net_of('net 3', 'peg a 0 0 0', 'ring s 2 4 6 0 0 0', 'ring r 1 2 4 0 0 0', 'cord a r', 'cord r s')
        refused(self, NotStraight, 'r', left_out, net, 'r')

    def test_tied(self):
        pegs = net_of('net 1', 'peg a 0', 'peg b 4', 'ring r 1 0', 'cord b r', 'cord r a')
        refused(self, Tied, ('b', 'a'), left_out, pegs, 'r')
        for cord in ('a s', 's a'):
            net = net_of('net 1', 'peg a 0', 'ring r 1 0', 'ring s 4 0', 'cord r a', 'cord ' + cord, 'cord s r')
            refused(self, Tied, ('a', 's'), left_out, net, 'r')
            net = net_of('net 1', 'peg a 0', 'ring r 1 0', 'ring s 4 0', 'cord s r', 'cord ' + cord, 'cord r a')
            refused(self, Tied, ('s', 'a'), left_out, net, 'r')

    def test_sequence_of_errors(self):
        net = net_of('net 1', 'peg a 0', 'peg b 4', 'ring r 1 1', 'ring s 5 1', 'ring t 6 0', 'cord b r', 'cord r a',
                     'cord b s', 'cord a s', 'cord b t', 'cord a t')
        refused(self, NoRing, 'a', left_out, net, 'a')
        refused(self, Weighed, 'r', left_out, net, 'r')
        refused(self, Weighed, 's', left_out, net, 's')
        refused(self, NotStraight, 't', left_out, net, 't')

    def test_no_ring(self):
        for value in odd_values() + ['a', 'b', 'M', ('m',), ['m'], 0]:
            with self.subTest(value=value):
                refused(self, NoRing, value, left_out, PAIR, value)


def products(table, row):
    return [sum((a * b for a, b in zip(line, row)), Fraction(0)) for line in map(exact, table)]


class TestMapped(unittest.TestCase):
    def tables(self, chance, coords):
        """Some tables that map nets of so many coordinates."""
        found = []
        for _ in range(6):
            rows = [[Fraction(chance.randint(-3, 3), chance.choice((1, 1, 2))) for _ in range(coords)]
                    for _ in range(chance.randint(coords, 3))]
            if self.is_right(rows, coords):
                found.append(tuple(tuple(told(part) for part in row) for row in rows))
        return found

    def is_right(self, rows, coords):
        """Whether no row but noughts goes to noughts: some of the rows, as many as coordinates, have a volume."""
        def volume(rows):
            if not rows:
                return 1
            rest = [[row[:at] + row[at + 1:] for row in rows[1:]] for at in range(len(rows))]
            return sum((-1) ** at * rows[0][at] * volume(rest[at]) for at in range(len(rows)))
        from itertools import combinations
        return any(volume([list(row) for row in part]) for part in combinations(rows, coords))

    def expected(self, net, table):
        """The text, or the first fraction beyond the bounds."""
        pegs = [(peg, products(table, place)) for peg, place in kept_pegs(net)]
        rings = [(ring, products(table, place), products(table, weight)) for ring, place, weight in kept_rings(net)]
        for row in [part[1] for part in pegs] + [part[1] + part[2] for part in rings]:
            for part in row:
                if abs(part.numerator) > 1000 or part.denominator > 60:
                    return told(part)
        return built(len(table), pegs, rings, net.cords)

    def test_by_the_words(self):
        chance, many = random.Random(5), {True: 0, False: 0}
        for net in some_nets() + [bound_net(1), bound_net(2), bound_net(3)]:
            fine = tuple((told(Fraction(part, 23)),) + ((0, 1),) * (net.coords - 1) for part in (22, 7, -5))
            for table in self.tables(chance, net.coords) + ([fine] if net.coords == 1 else []):
                expected = self.expected(net, table)
                many[isinstance(expected, str)] += 1
                if isinstance(expected, str):
                    found = mapped(net, table)
                    self.assertIs(type(found), Net)
                    self.assertEqual(found.text, expected)
                    self.assertEqual(found.coords, len(table))
                else:
                    refused(self, Beyond, expected, mapped, net, table)
        self.assertGreater(many[True], 300)
        self.assertGreater(many[False], 5)

    def test_the_same_pulls_balance(self):
        chance = random.Random(6)
        for net in some_hung(50) + some_nets()[::2]:
            for table in self.tables(chance, net.coords)[:2]:
                try:
                    found = mapped(net, table)
                except Beyond:
                    continue
                with self.subTest(net=net.text, table=table):
                    self.assertTrue(shows_rounds(found, rounds(net)))
                    self.assertEqual(does_hang(found), does_hang(net))
                    if does_hang(net):
                        self.assertTrue(shows_hangs(found, hangs(net)))
                        self.assertEqual(lots(found), lots(net))

    def test_more_and_as_many_rows(self):
        net = net_of('net 2', 'peg a 1 2', 'ring r 0 1/2 3 -1', 'cord a r')
        turned = (((0, 1), (-1, 1)), ((1, 1), (0, 1)))
        self.assertEqual(mapped(net, turned).text, 'net 2\npeg a -2 1\nring r -1/2 0 1 3\ncord a r')
        wide = turned + (((1, 2), (1, 3)),)
        self.assertEqual(mapped(net, wide).text, 'net 3\npeg a -2 1 7/6\nring r -1/2 0 1/6 1 3 7/6\ncord a r')
        self.assertEqual(mapped(table=turned, net=net), mapped(net, turned))
        line = net_of('net 1', 'peg a 6', 'ring r 0 -4', 'cord r a')
        self.assertEqual(mapped(line, (((1, 4),),)).text, 'net 1\npeg a 3/2\nring r 0 -1\ncord r a')
        self.assertEqual(mapped(line, (((0, 1),), ((1, 1),), ((0, 1),))).text, 'net 3\npeg a 0 6 0\nring r 0 0 0 0 -4 0\ncord r a')

    def test_fractions_of_any_size(self):
        net = net_of('net 1', 'peg a 0', 'ring r 1/59 0', 'cord a r')
        far = 10 ** 12 - 1
        self.assertEqual(mapped(net, (((59, 60),),)).text, 'net 1\npeg a 0\nring r 1/60 0\ncord a r')
        self.assertEqual(mapped(net, (((59 * 999, 1),),)).text, 'net 1\npeg a 0\nring r 999 0\ncord a r')
        refused(self, Beyond, (far, 59), mapped, net, (((far, 1),),))
        refused(self, Beyond, (1, 59 * far), mapped, net, (((1, far),),))
        still = net_of('net 2', 'peg a 0 0', 'ring r 0 0 0 0')
        self.assertEqual(mapped(still, (((far, 2), (1, far)), ((1, 1), (0, 1)))), still)
        self.assertEqual(mapped(net, (((59 * 1000, 1),),)).text.split('\n')[2], 'ring r 1000 0')
        refused(self, Beyond, (1001, 1), mapped, net, (((59 * 1001, 1),),))
        refused(self, Beyond, (1, 61), mapped, net, (((59, 61),),))

    def test_first_fraction_beyond(self):
        net = net_of('net 2', 'peg a 1 0', 'peg b 0 1', 'ring r 2 3 5 7', 'ring s 1 1 0 11', 'cord a r')

        def table(*rows):
            return tuple(tuple((part, 1) for part in row) for row in rows)
        refused(self, Beyond, (1001, 1), mapped, net, table((1001, 2000), (3000, 0)))
        refused(self, Beyond, (3000, 1), mapped, net, table((500, 1002), (3000, 0)))
        refused(self, Beyond, (-1001, 1), mapped, net, table((500, -1001), (0, 1)))
        refused(self, Beyond, (1500, 1), mapped, net, table((0, 500), (300, 300)))
        refused(self, Beyond, (1400, 1), mapped, net, table((0, 200), (1, 0)))
        refused(self, Beyond, (1100, 1), mapped, net, table((0, 100), (1, 0)))
        refused(self, Beyond, (1, 64), mapped, net, (((1, 64), (0, 1)), ((0, 1), (1, 1))))

    def test_no_table(self):
        one, none = (1, 1), (0, 1)
        for table in odd_values() + [
            (), ((one, none),), ((one, one), (one, one)), ((one, none), ((-2, 1), none)), ((none, none), (one, one)),
            ((one, (2, 1)), ((1, 2), one), ((3, 1), (6, 1))), ((one, none), (none, one), (one, one), (one, none)),
            [(one, none), (none, one)], ([one, none], (none, one)), ((one, none), (none, one), ()), ((one,), (none,)),
            ((one, none, none), (none, one, none)), ((one, none), (none, [1, 1])), ((one, none), (one,)), ((none, none),) * 2,
            ((one, none), (none, (True, 1))), (one, one),
        ] + [((one, none), (none, value)) for value in not_fractions()]:
            with self.subTest(table=table):
                refused(self, BadTable, table, mapped, PAIR, table)
        space = net_of('net 3', 'peg a 0 0 0')
        refused(self, BadTable, ((one, one, one), (one, none, none)), mapped, space, ((one, one, one), (one, none, none)))
        row = ((one, (2, 1), (3, 1)), ((4, 1), (5, 1), (6, 1)), ((7, 1), (8, 1), (9, 1)))
        refused(self, BadTable, row, mapped, space, row)
        line = net_of('net 1', 'peg a 0')
        refused(self, BadTable, ((none,),), mapped, line, ((none,),))
        refused(self, BadTable, ((none,), (none,), (none,)), mapped, line, ((none,), (none,), (none,)))


class TestShadow(unittest.TestCase):
    def kept(self, net):
        """All right values for a net."""
        return {1: [(0,)], 2: [(0,), (1,), (0, 1)], 3: [(0,), (1,), (2,), (0, 1), (0, 2), (1, 2), (0, 1, 2)]}[net.coords]

    def check(self, net, kept):
        """The shadow, by the words; None if ends come together."""
        def part(row):
            return [row[at] for at in kept]
        for cord, (one, other) in enumerate(net.cords):
            if part(drawn(net)[one]) == part(drawn(net)[other]):
                refused(self, Together, cord, shadow, net, kept)
                return None
        found = shadow(net, kept)
        self.assertIs(type(found), Net)
        pegs = [(peg, part(place)) for peg, place in kept_pegs(net)]
        rings = [(ring, part(place), part(weight)) for ring, place, weight in kept_rings(net)]
        self.assertEqual(found.text, built(len(kept), pegs, rings, net.cords))
        return found

    def test_by_the_words(self):
        none, some = 0, 0
        for net in some_nets() + some_hung(40):
            for kept in self.kept(net):
                with self.subTest(net=net.text, kept=kept):
                    found = self.check(net, kept)
                    if found is None:
                        none += 1
                    else:
                        some += 1
                        self.check_holds(net, found)
        self.assertGreater(none, 30)
        self.assertGreater(some, 200)

    def check_holds(self, net, found):
        for ring in held(net):
            self.assertLessEqual(round_of(found, ring), round_of(net, ring))
        if does_hang(net):
            self.assertTrue(does_hang(found))
            after = lot_table(found)
            self.assertFalse([pair for pair, number in lot_table(net).items() if number is not None and after[pair] is None])

    def test_all_coordinates(self):
        for net in (PAIR, stairs(3), bound_net(1), bound_net(3)):
            self.assertEqual(shadow(net, tuple(range(net.coords))), net)

    def test_together_with_the_first_cord(self):
        net = net_of('net 2', 'peg a 0 0', 'peg b 0 5', 'ring r 1 1 0 0', 'ring s 0 2 0 0', 'ring t 1 2 0 0',
                     'cord a r', 'cord s b', 'cord t s', 'cord r t')
        refused(self, Together, 1, shadow, net, (0,))
        refused(self, Together, 2, shadow, net, (1,))
        refused(self, Together, 1, shadow, kept=(0,), net=net)

    def test_places_may_come_together_without_a_cord(self):
        net = net_of('net 2', 'peg a 1 0', 'peg b 1 5', 'ring r 0 1 2 3', 'ring s 0 2 4 5', 'cord a r')
        self.assertEqual(shadow(net, (0,)).text, 'net 1\npeg a 1\npeg b 1\nring r 0 2\nring s 0 4\ncord a r')

    def test_not_kept(self):
        values = [(), (2,), (-1,), (0, 0), (1, 0), (0, 1, 2), (True,), (False,), (0, True), [0], [0, 1], ([0],), ('0',),
                  (None,), ((0,),), (0, None), 'a', 0, 1, (0, 10 ** 11), ((0, 1),), (-1, 0), (0, -1)]
        for value in values + [odd for odd in odd_values() if odd != (0,)]:
            with self.subTest(value=value):
                refused(self, BadKept, value, shadow, PAIR, value)
        line = net_of('net 1', 'peg a 0', 'ring r 1 1', 'cord a r')
        refused(self, BadKept, (1,), shadow, line, (1,))
        refused(self, BadKept, (0, 1), shadow, line, (0, 1))
        space = net_of('net 3', 'peg a 0 0 0', 'ring r 0 0 1 0 0 0', 'cord a r')
        refused(self, BadKept, (2, 1), shadow, space, (2, 1))
        refused(self, BadKept, (0, 2, 1), shadow, space, (0, 2, 1))
        refused(self, BadKept, (0, 1, 1), shadow, space, (0, 1, 1))


class TestJoined(unittest.TestCase):
    def expected(self, net, other):
        """The text, or the error and its value, by the words."""
        cords, ends = list(net.cords), [set(cord) for cord in net.cords]
        cords += [cord for cord in other.cords if set(cord) not in ends]
        if len(cords) > 20:
            return TooMany, len(cords)
        rings = []
        for ring, place, weight in kept_rings(net):
            total = [a + b for a, b in zip(weight, weights(other)[ring])]
            for part in total:
                if abs(part.numerator) > 1000 or part.denominator > 60:
                    return Beyond, told(part)
            rings.append((ring, place, total))
        return built(net.coords, kept_pegs(net), rings, cords)

    def check(self, net, other):
        expected = self.expected(net, other)
        if isinstance(expected, str):
            found = joined(net, other)
            self.assertIs(type(found), Net)
            self.assertEqual(found.text, expected)
            return found
        refused(self, expected[0], expected[1], joined, net, other)
        return None

    def parted(self, chance, net):
        """Two nets with some cords of a net each, some of them in both, with ends in both sequences."""
        lines = net.text.split('\n')
        head = len(lines) - len(net.cords)
        found = []
        for _ in range(2):
            cords = [chance.sample(cord, 2) for cord in net.cords if chance.random() < 0.6]
            chance.shuffle(cords)
            found.append(net_of(*lines[:head], *['cord {} {}'.format(*cord) for cord in cords]))
        return found

    def test_by_the_words(self):
        chance = random.Random(8)
        for net in some_nets() + [bound_net(2), grid_net(1), full_stairs(3)]:
            one, other = self.parted(chance, net)
            for pair in ((one, other), (other, one), (net, one), (one, net), (net, net)):
                with self.subTest(texts=[part.text for part in pair]):
                    found = self.check(*pair)
                    if found is not None:
                        for part in pair:
                            for ring in held(part):
                                self.assertLessEqual(round_of(found, ring), round_of(part, ring))

    def test_if_both_hang(self):
        chance, many, merged = random.Random(9), 0, 0
        for net in some_hung(80):
            one, other = self.with_own_weights(chance, net)
            if one is None or other is None:
                continue
            found = self.check(one, other)
            if found is not None:
                many += 1
                self.assertTrue(does_hang(found))
                tables = [lot_table(part) for part in (one, other, found)]
                for pair in tables[0]:
                    numbers = [table[pair] for table in tables]
                    if numbers[:2] != [None, None]:
                        self.assertIsNotNone(numbers[2])
                        merged += None in numbers
        self.assertGreater(many, 40)
        self.assertGreater(merged, 20)

    def with_own_weights(self, chance, net):
        from support import hung_net
        return [hung_net(chance, part) for part in self.parted(chance, net)]

    def test_cords_of_both(self):
        one = net_of('net 1', 'peg a 0', 'peg b 4', 'ring r 1 1', 'ring s 2 1/2', 'cord s r', 'cord a r')
        other = net_of('net 1', 'peg a 0', 'peg b 4', 'ring r 1 -3', 'ring s 2 1/3', 'cord s b', 'cord r a', 'cord r s', 'cord r b')
        self.assertEqual(joined(one, other).text.split('\n')[3:], [
            'ring r 1 -2', 'ring s 2 5/6', 'cord s r', 'cord a r', 'cord s b', 'cord r b'])
        self.assertEqual(joined(other, one).cords, other.cords)
        self.assertEqual(joined(other=other, net=one), joined(one, other))

    def test_unlike(self):
        base = net_of('net 2', 'peg a 0 0', 'peg b 4 0', 'ring r 1 1 0 0', 'ring s 2 2 0 0', 'cord a r')
        text = base.text
        for unlike in (
            text.replace('net 2', 'net 1').replace('peg a 0 0', 'peg a 0').replace('peg b 4 0', 'peg b 4')
            .replace('r 1 1 0 0', 'r 1 0').replace('s 2 2 0 0', 's 2 0'),
            text.replace('peg b 4 0\n', ''), text.replace('peg b 4 0', 'peg b 4 0\npeg c 5 5'),
            text.replace('peg a 0 0\npeg b 4 0', 'peg b 4 0\npeg a 0 0'), text.replace('peg b 4 0', 'peg c 4 0'),
            text.replace('peg b 4 0', 'peg b 4 1/60'), text.replace('\nring s 2 2 0 0', ''),
            text.replace('ring r 1 1 0 0\nring s 2 2 0 0', 'ring s 2 2 0 0\nring r 1 1 0 0'),
            text.replace('ring s 2 2', 'ring s 2 3'), text.replace('ring s', 'ring t'),
            text.replace('cord a r', 'ring t 5 5 0 0\ncord a r'), text.replace('peg b 4 0', 'ring b 4 0 0 0'),
        ):
            other = Net(unlike)
            with self.subTest(unlike):
                refused(self, Unlike, other, joined, base, other)
                refused(self, Unlike, base, joined, other, base)
        swapped = Net(text.replace('ring s 2 2', 'ring s 1 1').replace('ring r 1 1', 'ring r 2 2'))
        refused(self, Unlike, swapped, joined, base, swapped)
        self.assertEqual(joined(base, Net(text.replace('r 1 1 0 0', 'r 1 1 5 -1/7'))).text, text.replace('r 1 1 0 0', 'r 1 1 5 -1/7'))

    def test_twenty_and_more_cords(self):
        head = ['net 2'] + ['peg {} {} {}'.format(name, at, at * at) for at, name in enumerate(PEGS)]
        head += ['ring q 3 50 1 0', 'ring r 4 60 1 0']
        pairs = [(peg, ring) for ring in 'qr' for peg in PEGS]

        def net(first, last):
            return net_of(*head, *['cord {} {}'.format(*pair) for pair in pairs[first:last]])
        self.assertEqual(len(joined(net(0, 12), net(8, 20)).cords), 20)
        self.assertEqual(len(joined(net(0, 20), net(5, 17)).cords), 20)
        # with weights beyond the bounds as well
        heavy = [Net(part.text.replace('r 4 60 1 0', 'r 4 60 1000 0')) for part in (net(0, 12), net(8, 20), net(8, 21))]
        refused(self, Beyond, (2000, 1), joined, heavy[0], heavy[1])
        refused(self, TooMany, 21, joined, heavy[0], heavy[2])
        refused(self, TooMany, 21, joined, net(0, 12), net(8, 21))
        refused(self, TooMany, 32, joined, net(0, 16), net(16, 32))
        refused(self, Unlike, PAIR, joined, net(0, 16), PAIR)

    def test_weights_beyond_the_bounds(self):
        def net(*parts):
            return net_of('net 2', 'peg a 0 0', 'ring r 1 1 {} {}'.format(*parts[:2]), 'ring s 1 2 {} {}'.format(*parts[2:]))
        self.assertEqual(joined(net(500, 1, '1/60', 0), net(500, 0, '1/60', 0)).text, net(1000, 1, '1/30', 0).text)
        refused(self, Beyond, (1001, 1), joined, net(500, -800, 0, 0), net(501, -800, 0, 0))
        refused(self, Beyond, (-1600, 1), joined, net(500, -800, 0, 0), net(500, -800, 0, 0))
        refused(self, Beyond, (1, 3540), joined, net(0, 0, '1/59', '1000'), net(0, 0, '-1/60', '1000'))
        refused(self, Beyond, (2000, 1), joined, net(0, 0, 0, '1000'), net(0, 0, 0, '1000'))


class TestBounds(unittest.TestCase):
    def test_each_at_bounds(self):
        for coords in (1, 2, 3):
            for net in (bound_net(coords), grid_net(coords), full_stairs(max(2, coords))):
                own = tuple(tuple((1 if at == other else 0, 1) for other in range(net.coords)) for at in range(net.coords))
                self.assertEqual(mapped(net, own), net)
                if held(net):
                    refused(self, TooMany, 16 + len(held(net)), cut_off, net)
                else:
                    self.assertEqual(cut_off(net), net)
                self.assertEqual(shadow(net, tuple(range(net.coords))), net)
                self.check_left_out(net)

    def check_left_out(self, net):
        for ring in net.rings:
            expected = expected_left_out(net, ring)
            if isinstance(expected, str):
                self.assertEqual(left_out(net, ring).text, expected)
            else:
                refused(self, expected[0], expected[1], left_out, net, ring)

    def test_left_out_and_joined_at_bounds(self):
        lines = grid_net(2).text.replace('-1/2', '0').split('\n')
        # w lies straight between v and x, with a peg at its side
        net = net_of(*[line for line in lines if line != 'cord m w'], 'cord a w')
        self.assertEqual((len(net.pegs), len(net.rings), len(net.cords)), (16, 8, 20))
        self.check_left_out(net)
        fewer = net_of(*lines[:-1])
        self.assertEqual(joined(fewer, net_of(*lines[:25], lines[-1])).text, '\n'.join(lines))


if __name__ == '__main__':
    unittest.main()
