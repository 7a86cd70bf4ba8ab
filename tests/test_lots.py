"""Section 9: what stays together, and what stays where it is drawn, in every way in which a net hangs."""

import random
import unittest
from fractions import Fraction

from cordsatrest.errors import NoName, NoRing, NotHung
from cordsatrest.hanging import does_hang
from cordsatrest.lots import (
    apart, does_stay, lot_round, lot_rounds, lots, other_hanging, shows_apart, shows_lot_rounds,
)
from cordsatrest.nets import Net
from cordsatrest.placements import is_placement, moved, picture, score
from support import (
    NONE, ONE, bound_net, drawn, exact, expected_held, expected_lots, full_stairs, grid_net, hung_net, hung_nets, knit_net,
    net_of, not_fractions, odd_values, pulls_at, put, refused, square_between, stairs, told, weights, with_weights,
)

# {u, v} and {k, l} bear contrary weights; upright cords tie both, from either side; m straight between u and l
PAIRS = net_of(
    'net 2', 'peg a 9 9', 'ring u 0 0 -1 0', 'ring k 0 1 -3 1', 'ring v 6 0 1 0', 'ring m 3 -1/2 0 0', 'ring l 6 -1 3 -1',
    'cord u v', 'cord k l', 'cord u k', 'cord l v', 'cord u m', 'cord m l',
)
TWO = (('a',), ('u', 'v'), ('k', 'l'), ('m',))
THREE = (('a',), ('u', 'k', 'v', 'l'), ('m',))
ALL = (('a',), ('u', 'k', 'v', 'm', 'l'))
STEPS = (
    (((1, 6), (1, 2)) + (NONE,) * 4, TWO),
    ((NONE, NONE, ONE, ONE, NONE, NONE), THREE),
    ((NONE,) * 4 + (ONE, ONE), ALL),
)
# a held ring h, j hanging on it; q and s hang on nothing but one another, t on nothing at all
MIXED = net_of(
    'net 2', 'peg a 0 0', 'peg b 4 0', 'ring q 0 5 0 0', 'ring h 2 0 1 7', 'ring s 1 5 0 0', 'ring j 2 -1 0 -1',
    'ring t 0 5 0 0', 'cord a h', 'cord h b', 'cord h j', 'cord q s',
)
BARE = net_of('net 2', 'peg a 0 0', 'peg b 1 0')
FALLING = net_of('net 1', 'peg a 0', 'ring r 1 -1', 'cord a r')
ROWS = ((ONE, NONE), (NONE, NONE), (NONE, ONE), (NONE, NONE), ((-1, 1), NONE))


def late_stairs(many):
    """The stairs with a weight in place of the first cord: each round ties one ring more to the pegs' lot."""
    lines = [line for line in stairs(many).text.split('\n') if line != 'cord r b']
    return net_of(*[line.replace('ring r 0 0 0 0', 'ring r 0 0 1 0') for line in lines])


class TestLots(unittest.TestCase):
    def check_rounds(self, net, first, expected):
        own, places = lot_rounds(net), drawn(net)
        self.assertEqual([({at for at, pull in enumerate(pulls) if pull[0] > 0}, parts) for pulls, parts in own], expected)
        parts = first
        for number, (pulls, behind) in enumerate(own):
            self.assertTrue(all(pull[0] >= 0 for pull in pulls))
            for part in parts[1:]:
                total = [sum(row) for row in zip(*[pulls_at(net, pulls, ring) for ring in part])]
                weight = [sum(row) for row in zip(*[weights(net)[ring] for ring in part])] if number == 0 else [0] * 3
                self.assertEqual([a + b for a, b in zip(total, weight)], [0] * net.coords)
            parts = behind
        self.assertEqual(lots(net), parts)
        behind = [first] + [part for _, part in own]
        for one in places:
            for other in places:
                numbers = [at for at, parts in enumerate(behind) if any(one in part and other in part for part in parts)]
                self.assertEqual(lot_round(net, one, other), numbers[0] if numbers else None)
        for ring in net.rings:
            self.assertIs(does_stay(net, ring), ring in parts[0])

    def check_shown(self, net, own):
        self.assertIs(shows_lot_rounds(net, own), True)
        self.assertIs(shows_lot_rounds(net, own + ((own and own[-1]) or ((NONE,) * len(net.cords), lots(net)),)), False)
        for at, (pulls, parts) in enumerate(own):
            self.assertIs(shows_lot_rounds(net, own[:at] + own[at + 1:]), False)
            third = tuple(told(part / 3) for part in exact(pulls))
            self.assertIs(shows_lot_rounds(net, own[:at] + ((third, parts),) + own[at + 1:]), at > 0)
            for near in ((NONE,) * len(net.cords), tuple(told(part + 1) for part in exact(pulls))):
                self.assertIs(shows_lot_rounds(net, own[:at] + ((near, parts),) + own[at + 1:]), False)
            for cord in [cord for cord, pull in enumerate(pulls) if pull[0] > 0]:
                # what one cord more or less draws is balanced by nothing
                near = tuple(told(part * (1 + (number == cord))) for number, part in enumerate(exact(pulls)))
                self.assertIs(shows_lot_rounds(net, own[:at] + ((near, parts),) + own[at + 1:]), False)
            for near in (parts[::-1], parts[:-1], parts + ((),), list(parts), tuple(map(list, parts)), parts[0],
                         tuple(part[::-1] for part in parts)):
                if near != parts:
                    self.assertIs(shows_lot_rounds(net, own[:at] + ((pulls, near),) + own[at + 1:]), False)

    def check_apart(self, net):
        parts, own = lots(net), apart(net)
        if len(parts) == 1:
            self.assertEqual((own, other_hanging(net)), (None, None))
            return
        moves, step = own
        rows = other_hanging(net)
        shifts = dict(zip(net.rings, moves))
        self.assertEqual(rows, moved(net, moves, step))
        heads = []
        for part in parts:
            shift = {shifts.get(name, (NONE,) * net.coords) for name in part}
            self.assertEqual(len(shift), 1)
            heads.extend(shift)
        self.assertEqual(heads[0], (NONE,) * net.coords)
        self.assertEqual(len(set(heads)), len(parts))
        self.assertIs(is_placement(net, rows), True)
        self.assertEqual(score(net, rows), score(net, picture(net)))
        for one, other in net.cords:
            within = any(one in part and other in part for part in parts)
            less = square_between(drawn(net), one, other) - square_between(put(net, rows), one, other)
            self.assertTrue(less == 0 if within else less > 0)
        self.check_shown_apart(net, moves, step, parts)

    def check_shown_apart(self, net, moves, step, parts):
        self.assertIs(shows_apart(net, (moves, step)), True)
        self.assertIs(shows_apart(net, None), False)
        self.assertIs(shows_apart(net, (moves, NONE)), False)
        self.assertIs(shows_apart(net, (moves, told(Fraction(*step) / 1000))), True)
        tied = any(not any(one in part and other in part for part in parts) for one, other in net.cords)
        self.assertIs(shows_apart(net, (moves, told(Fraction(*step) * 10 ** 6))), not tied)
        for at, ring in enumerate(net.rings):
            near = tuple(told(part + Fraction(1, 10 ** 9)) for part in exact(moves[at]))
            alone = (ring,) in parts
            if not alone:
                self.assertIs(shows_apart(net, (moves[:at] + (near,) + moves[at + 1:], step)), False)
            else:
                near = (NONE,) * net.coords
                self.assertIs(shows_apart(net, (moves[:at] + (near,) + moves[at + 1:], step)), False)

    def test_by_the_words(self):
        many = set()
        for net in hung_nets(90):
            with self.subTest(net.text):
                first, expected = expected_lots(net)
                self.check_rounds(net, first, expected)
                self.check_shown(net, lot_rounds(net))
                self.check_apart(net)
                many.add((len(expected), len(lots(net)), max(map(len, lots(net)[1:]), default=0)))
        self.assertGreater(len(many), 8)

    def test_one_round_behind_the_other(self):
        for many in range(1, 9):
            net = late_stairs(many)
            first = (net.pegs,) + tuple((ring,) for ring in net.rings)
            found = []
            for at in range(many):
                cords = {0} if at == 0 else {2 * at - 1, 2 * at}
                rest = tuple((ring,) for ring in net.rings[at + 1:])
                found.append((cords, (net.pegs + net.rings[:at + 1],) + rest))
            self.check_rounds(net, first, found)
            self.check_shown(net, lot_rounds(net))
            self.check_apart(net)
            self.assertIs(does_stay(net, net.rings[-1]), True)
            self.assertEqual(lot_round(net, net.rings[-1], 'a'), many)

    def test_lots_beside_the_pegs(self):
        self.check_rounds(PAIRS, (('a',),) + tuple((ring,) for ring in PAIRS.rings),
                          [({0, 1}, TWO), ({2, 3}, THREE), ({4, 5}, ALL)])
        self.check_apart(PAIRS)
        self.assertEqual([lot_round(PAIRS, *pair) for pair in ('uv', 'uk', 'mk', 'ua', 'mm', 'aa')], [1, 2, 3, None, 0, 0])
        self.assertEqual([does_stay(PAIRS, ring) for ring in PAIRS.rings], [False] * 5)
        self.assertEqual(*expected_lots(PAIRS)[1:], [({0, 1}, TWO), ({2, 3}, THREE), ({4, 5}, ALL)])

    def test_a_first_round_that_pulls_nothing(self):
        net = net_of('net 2', 'peg a 0 0', 'ring r 1 0 0 0', 'ring s 2 0 0 0', 'cord a r', 'cord r s')
        self.assertEqual([lot_rounds(net), lots(net)], [(), (('a',), ('r',), ('s',))])
        self.assertEqual([lot_round(net, 'r', 'a'), lot_round(net, 'r', 's'), lot_round(net, 's', 's')], [None, None, 0])
        self.assertIs(shows_lot_rounds(net, ()), True)
        self.assertIs(shows_lot_rounds(net, (((NONE, NONE), lots(net)),)), False)
        self.check_apart(net)

    def test_pegs_and_held_rings(self):
        self.assertEqual(lots(MIXED), (('a', 'b', 'h', 'j'), ('q',), ('s',), ('t',)))
        pairs = [('a', 'b'), ('h', 'h'), ('h', 'a'), ('b', 'h'), ('q', 'q'), ('j', 'h'), ('a', 'j'), ('q', 's'), ('t', 'a')]
        self.assertEqual([lot_round(MIXED, *pair) for pair in pairs], [0, 0, 0, 0, 0, 1, 1, None, None])
        self.assertEqual([does_stay(MIXED, ring) for ring in MIXED.rings], [False, True, False, True, False])
        self.assertEqual(lot_rounds(MIXED), (((NONE, NONE, ONE, NONE), lots(MIXED)),))
        self.check_apart(MIXED)

    def test_all_stay(self):
        for net in (BARE, stairs(3), late_stairs(3)):
            self.assertEqual([apart(net), other_hanging(net), len(lots(net))], [None, None, 1])
            self.assertIs(shows_apart(net, None), True)
            for value in odd_values() + [(((NONE, NONE),) * len(net), ONE)]:
                self.assertIs(shows_apart(net, value), value is None)
        self.assertEqual([lots(BARE), lot_rounds(BARE), lot_round(BARE, 'a', 'b')], [(('a', 'b'),), (), 0])
        self.assertIs(shows_lot_rounds(BARE, ()), True)
        for value in odd_values() + [(((), (('a', 'b'),)),), []]:
            self.assertIs(shows_lot_rounds(BARE, value), False)

    def test_rings_alone(self):
        net = net_of('net 3', 'peg a 0 0 0', *['ring {} 0 0 {} 0 0 0'.format(name, at) for at, name in enumerate('qrstuvwx')])
        self.assertEqual(lots(net), (('a',),) + tuple((ring,) for ring in 'qrstuvwx'))
        self.check_apart(net)

    def test_not_hung(self):
        for net in (FALLING, bound_net(2), grid_net(2), Net(MIXED.text.replace('ring t 0 5 0 0', 'ring t 0 5 0 -1'))):
            self.assertIs(does_hang(net), False)
            for call, args in ((lot_rounds, ()), (lots, ()), (lot_round, (net.pegs[0], net.rings[0])), (apart, ()),
                               (lot_round, (net.pegs[0],) * 2), (does_stay, net.rings[:1]), (other_hanging, ())):
                with self.subTest(net=net.text, call=call):
                    refused(self, NotHung, None, call, net, *args)
            for call in (shows_lot_rounds, shows_apart):
                for value in odd_values() + [()]:
                    refused(self, NotHung, None, call, net, value)

    def test_no_name(self):
        for net in (MIXED, FALLING):
            ring = net.rings[0]
            for value in odd_values() + ['z', 'Q', 'aa', ('a',), ['a'], 0]:
                if value == ring:
                    continue
                with self.subTest(value=value):
                    refused(self, NoName, value, lot_round, net, value, 'a')
                    refused(self, NoName, value, lot_round, net, ring, value)
                    refused(self, NoName, value, lot_round, net, value, value)
                    refused(self, NoName, value, lot_round, other='nobody', net=net, one=value)

    def test_no_ring(self):
        for net in (MIXED, FALLING):
            for value in odd_values() + ['a', 'z', 'R', ('q',), ['q'], 0]:
                with self.subTest(value=value):
                    refused(self, NoRing, value, does_stay, net, value)
                    refused(self, NoRing, value, does_stay, ring=value, net=net)

    def test_at_bounds(self):
        chance = random.Random(4)
        for coords in (1, 2, 3):
            for net in (bound_net(coords), grid_net(coords), full_stairs(max(coords, 2))):
                light = hung_net_at_bounds(chance, net)
                own = lot_rounds(light)
                self.assertIs(shows_lot_rounds(light, own), True)
                self.assertIn(lot_round(light, light.rings[0], light.rings[-1]), (None,) + tuple(range(len(own) + 1)))
                self.check_apart(light)
        for coords in (1, 2, 3):
            net = Net(grid_net(coords).text.replace(' -1/2' * coords, ' 1/2' + ' 0' * (coords - 1)))
            self.assertIs(does_hang(net), True)
            self.assertEqual(lots(net), (net.pegs + net.rings,))
            self.assertEqual(lot_round(net, 'x', 'a'), 1)


def hung_net_at_bounds(chance, net):
    """A net at its bounds with whole pulls, each 0 or 1, or with no weights where those are not fit for its text."""
    pulls = [told(chance.choice((0, 0, 1))) for _ in net.cords]
    heavy = with_weights(net, {ring: [-part for part in pulls_at(net, pulls, ring)] for ring in net.rings})
    return heavy or with_weights(net, {ring: [0] * net.coords for ring in net.rings})


class TestShowsLotRounds(unittest.TestCase):
    def shows(self, net, value, right):
        with self.subTest(value=value):
            self.assertIs(shows_lot_rounds(net, value), right)

    def test_right_ones(self):
        self.shows(PAIRS, STEPS, True)
        self.shows(PAIRS, STEPS[:1] + (((NONE, NONE, (2, 3), (2, 3), NONE, NONE), THREE), STEPS[2]), True)
        self.shows(PAIRS, STEPS[:2] + (((NONE,) * 4 + ((9, 1), (9, 1)), ALL),), True)

    def test_wrong_pulls(self):
        for at, pulls in ((0, (ONE, ONE) + (NONE,) * 4), (0, (NONE,) * 6), (0, STEPS[0][0][:5]), (0, list(STEPS[0][0])),
                          (0, ((1, 6), (1, 2), ONE, ONE, NONE, NONE)), (1, (NONE, NONE, ONE, (2, 1), NONE, NONE)),
                          (1, (NONE, NONE, ONE, ONE, ONE, ONE)), (1, ((1, 6), (1, 2), ONE, ONE, NONE, NONE)),
                          (2, (NONE,) * 4 + (ONE, NONE)), (2, (NONE, NONE, ONE, ONE, ONE, ONE)), (2, (NONE,) * 6),
                          (1, (NONE, NONE, (-1, 1), (-1, 1), NONE, NONE)), (0, ((1, 6), (1, 2)) + (False,) * 4)):
            self.shows(PAIRS, STEPS[:at] + ((pulls, STEPS[at][1]),) + STEPS[at + 1:], False)
        for part in not_fractions():
            self.shows(PAIRS, ((((1, 6), (1, 2), part) + (NONE,) * 3, TWO),) + STEPS[1:], False)

    def test_wrong_lots(self):
        for at, parts in ((0, THREE), (1, TWO), (2, THREE), (0, TWO[::-1]), (0, TWO[1:]), (0, TWO + ((),)), (0, list(TWO)),
                          (0, (('a',), ('v', 'u'), ('k', 'l'), ('m',))), (0, (('a',), ('k', 'l'), ('u', 'v'), ('m',))),
                          (0, (['a'],) + TWO[1:]), (0, ('a', 'uv', 'kl', 'm')), (0, None), (0, ()), (0, (True,)),
                          (2, (('a', 'u', 'k', 'v', 'm', 'l'),))):
            self.shows(PAIRS, STEPS[:at] + ((STEPS[at][0], parts),) + STEPS[at + 1:], False)

    def test_wrong_rounds(self):
        for value in ((), STEPS[:2], STEPS[1:], STEPS[::-1], STEPS + STEPS[2:], list(STEPS), (list(STEPS[0]),) + STEPS[1:],
                      (STEPS[0] + (1,),) + STEPS[1:], (STEPS[0][:1],) + STEPS[1:], ((STEPS[0][::-1]),) + STEPS[1:], STEPS[0],
                      ((((1, 6), (1, 2), ONE, ONE, ONE, ONE), ALL),)):
            self.shows(PAIRS, value, False)

    def test_any_value(self):
        for value in odd_values() + not_fractions() + [(value,) * 3 for value in odd_values()]:
            self.shows(PAIRS, value, False)
            self.shows(PAIRS, (value,) + STEPS[1:], False)
            self.shows(PAIRS, ((value, TWO),) + STEPS[1:], False)
            self.shows(PAIRS, ((STEPS[0][0], value),) + STEPS[1:], False)


class TestShowsApart(unittest.TestCase):
    def shows(self, net, value, right):
        with self.subTest(value=value):
            self.assertIs(shows_apart(net, value), right)

    def test_right_ones(self):
        for step in ((1, 4), (1, 10 ** 9), (99, 100)):
            self.shows(MIXED, (ROWS, step), True)
            self.shows(MIXED, (((ONE, NONE), (NONE, NONE), (NONE, (-1, 1)), (NONE, NONE), ((-1, 1), NONE)), step), True)
            self.shows(MIXED, ((ROWS[2], ROWS[1], ROWS[0]) + ROWS[3:], step), False)
        self.shows(MIXED, (ROWS, ONE), False)
        shift = ((NONE, (5, 7)),) * 5
        for step in (ONE, (10 ** 9, 1)):
            self.shows(PAIRS, (shift, step), True)

    def test_a_cord_as_long_as_drawn(self):
        rows = ((ONE, NONE), (NONE, NONE), ((-1, 1), NONE), (NONE, NONE), ((-2, 1), NONE))
        for step, right in (((1, 2), True), ((99, 100), True), (ONE, False), ((101, 100), False), (NONE, False),
                            ((-1, 2), False), ([1, 2], False), (1, False), (True, False), ((2, 4), False)):
            self.shows(MIXED, (rows, step), right)

    def test_wrong_moves(self):
        good = ((ONE, NONE), (NONE, NONE), (NONE, NONE), (NONE, NONE), ((-1, 1), NONE))
        self.shows(MIXED, (good, (1, 2)), False)
        good = good[:2] + ((NONE, (1, 5)),) + good[3:]
        self.shows(MIXED, (good, (1, 2)), True)
        for at, row in ((1, (NONE, ONE)), (3, (NONE, (1, 1000))), (4, (NONE, NONE)), (4, good[0]), (4, good[2]), (0, good[2]),
                        (0, (ONE,)), (0, [ONE, NONE]), (0, (ONE, NONE, NONE)), (0, None), (4, ()), (0, ((-1, 1), NONE))):
            self.shows(MIXED, (good[:at] + (row,) + good[at + 1:], (1, 2)), False)
        for part in not_fractions():
            self.shows(MIXED, (good[:4] + ((part, ONE),), (1, 2)), False)
            self.shows(MIXED, (good, part), False)
        for value in (good, (good,), (good, (1, 2), 1), [good, (1, 2)], (list(good), (1, 2)), (good[:4], (1, 2)),
                      (good + good[:1], (1, 2)), ((1, 2), good), None, ()):
            self.shows(MIXED, value, False)

    def test_rings_of_a_lot_move_alike(self):
        self.shows(PAIRS, (((NONE, ONE),) * 4 + ((NONE, (2, 1)),), ONE), False)
        self.shows(PAIRS, (((NONE, ONE),) * 5, ONE), True)

    def test_any_value(self):
        for value in odd_values() + not_fractions():
            self.shows(MIXED, value, False)
            self.shows(MIXED, (value, (1, 2)), False)
            self.shows(PAIRS, (((NONE, ONE),) * 5, value), False)


if __name__ == '__main__':
    unittest.main()
