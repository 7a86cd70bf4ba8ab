"""Section 5: placements."""

import unittest
from fractions import Fraction

from cordsatrest.errors import BadMoves, BadPlacement, BadShare, BadStep, NoName
from cordsatrest.placements import between, is_placement, lets, mixture, moved, picture, score
from cordsatrest.rounds import further
from support import (
    NONE, ONE, bound_net, drawn, exact, grid_net, net_of, not_fractions, odd_values, put, random_nets, refused,
    square_between, told, weights,
)

# r is held; s hangs on it, 2 long
NET = net_of(
    'net 2', 'peg a 0 0', 'peg b 4 0', 'ring r 2 0 0 -1', 'ring s 2 -2 1/2 0', 'cord a r', 'cord r b', 'cord r s',
)
DRAWN = (((2, 1), NONE), ((2, 1), (-2, 1)))
OTHER = (((2, 1), NONE), ((3, 1), (-1, 1)))
BARE = net_of('net 2', 'peg a 0 0', 'peg b 3 4')
LONG = net_of('net 1', 'peg a 0', 'ring r 5 2', 'cord a r')


def whole(*parts):
    return tuple((part, 1) for part in parts)


def bad_placements():
    """Values that are no placements of NET, some of them nearly so."""
    far = (DRAWN[0], ((2, 1), (-2000000000001, 1000000000000)))
    short = (DRAWN[0], whole(2))
    found = odd_values() + not_fractions() + [
        (), DRAWN[:1], DRAWN + DRAWN[:1], list(DRAWN), (list(DRAWN[0]), DRAWN[1]), (DRAWN[0], list(DRAWN[1])), far,
        short, (whole(2), whole(2)), (((2, 1), NONE, NONE), DRAWN[1]), (DRAWN[0], DRAWN[1] + (NONE,)), ((), ()),
        (DRAWN, (0, 1)), (((2, 1), (1, 1000)), DRAWN[1]), {'r': DRAWN[0], 's': DRAWN[1]},
        tuple(row + (NONE,) * 11 for row in DRAWN),
    ]
    found += [(DRAWN[0], (part, (-2, 1))) for part in not_fractions()]
    return found + [(DRAWN[0], ((2, 1), (-2, 1), part)) for part in not_fractions()]


class TestIsPlacement(unittest.TestCase):
    def test_picture(self):
        self.assertEqual(picture(NET), DRAWN)
        self.assertEqual(picture(BARE), ())
        self.assertIs(is_placement(NET, DRAWN), True)

    def test_right_ones(self):
        for s in (whole(3, -1), whole(2, 0), whole(4, 0), whole(1, 1), ((16, 5), (-8, 5)), ((5, 2), (0, 1))):
            self.assertIs(is_placement(NET, (DRAWN[0], s)), True)

    def test_wrong_ones(self):
        for value in bad_placements():
            with self.subTest(value=value):
                self.assertIs(is_placement(NET, value), False)

    def test_just_as_long_and_a_little_longer(self):
        for s, right in (((16, 5), True), ((16000000000, 4999999999), False), ((15999999999, 5000000000), True)):
            self.assertIs(is_placement(NET, (DRAWN[0], (s, (-8, 5)))), right)
        for r, right in (((5, 1), True), ((-5, 1), True), ((500001, 100000), False), ((-500001, 100000), False),
                         (NONE, True)):
            self.assertIs(is_placement(LONG, ((r,),)), right)
        self.assertIs(is_placement(LONG, (whole(3, 4),)), True)
        self.assertIs(is_placement(LONG, (((3, 1), (400001, 100000)),)), False)

    def test_from_d_to_twelve_coordinates(self):
        for many in range(0, 15):
            rows = tuple((row + (NONE,) * many)[:many] for row in DRAWN)
            self.assertIs(is_placement(NET, rows), 2 <= many <= 12)
            self.assertIs(is_placement(LONG, (whole(*[1] * many),)), 1 <= many <= 12)

    def test_further_coordinates_count(self):
        for r, s, right in (((2, 0), (2, -2), False), ((2, 0), (2, -1), True), ((2, 0), (2, 0), True)):
            deep = (whole(*r) + (NONE,) * 10, whole(*s) + (NONE,) * 9 + (ONE,))
            self.assertIs(is_placement(NET, deep), right)

    def test_as_many_coordinates_for_all(self):
        self.assertIs(is_placement(NET, (DRAWN[0], DRAWN[1] + (NONE,))), False)
        self.assertIs(is_placement(NET, (DRAWN[0] + (NONE,), DRAWN[1])), False)

    def test_pegs_stay_with_noughts_behind(self):
        self.assertIs(is_placement(NET, (((2, 1), NONE, ONE), ((2, 1), NONE, ONE))), False)

    def test_without_rings(self):
        self.assertIs(is_placement(BARE, ()), True)
        for value in odd_values() + [[], ((),), DRAWN, {}]:
            self.assertIs(is_placement(BARE, value), False)


class TestTold(unittest.TestCase):
    def test_lets(self):
        self.assertEqual(lets(NET, DRAWN), (NONE, NONE, NONE))
        self.assertEqual(lets(NET, (DRAWN[0], whole(2, 0))), (NONE, NONE, (4, 1)))
        self.assertEqual(lets(LONG, (((1, 2), (1, 3)),)), (told(25 - Fraction(1, 4) - Fraction(1, 9)),))
        self.assertEqual(lets(BARE, ()), ())

    def test_score(self):
        self.assertEqual([score(NET, DRAWN), score(NET, OTHER), score(BARE, ())], [ONE, (3, 2), NONE])
        self.assertEqual(score(LONG, (whole(3, 4),)), (6, 1))

    def test_between(self):
        self.assertEqual(between(NET, OTHER, 's', 'b'), (2, 1))
        self.assertEqual(between(NET, OTHER, 'b', 's'), (2, 1))
        self.assertEqual(between(NET, DRAWN, 's', 's'), NONE)
        self.assertEqual(between(BARE, (), 'a', 'b'), (25, 1))
        self.assertEqual(between(LONG, (whole(3, 4),), 'r', 'a'), (25, 1))

    def test_mixture(self):
        self.assertEqual(mixture(NET, DRAWN, OTHER, (1, 4)), (DRAWN[0], ((9, 4), (-7, 4))))
        self.assertEqual(mixture(NET, DRAWN, OTHER, NONE), DRAWN)
        self.assertEqual(mixture(NET, DRAWN, OTHER, ONE), OTHER)
        self.assertEqual(mixture(BARE, (), (), (1, 2)), ())

    def test_mixture_of_other_numbers_of_coordinates(self):
        deep = tuple(row + (NONE, NONE) for row in DRAWN)
        self.assertEqual(mixture(NET, DRAWN, deep, NONE), deep)
        self.assertEqual(mixture(NET, deep, DRAWN, ONE), deep)
        wide = (whole(0, 3, 4),)
        self.assertEqual(mixture(LONG, (whole(5),), wide, (1, 5)), (((4, 1), (3, 5), (4, 5)),))
        self.assertEqual(mixture(LONG, wide, (whole(5),), (1, 5)), ((ONE, (12, 5), (16, 5)),))

    def test_moved(self):
        moves = (whole(1, -2), ((1, 3), NONE))
        self.assertEqual(moved(NET, moves, ONE), (whole(3, -2), ((7, 3), (-2, 1))))
        self.assertEqual(moved(NET, moves, (-3, 1)), (whole(-1, 6), whole(1, -2)))
        self.assertEqual(moved(NET, moves, (1, 2)), (((5, 2), (-1, 1)), ((13, 6), (-2, 1))))
        self.assertEqual(moved(NET, moves, NONE), DRAWN)
        self.assertEqual(moved(NET, ((NONE, NONE),) * 2, (7, 3)), DRAWN)
        self.assertEqual(moved(BARE, (), (5, 1)), ())


class TestRefused(unittest.TestCase):
    def test_bad_placement(self):
        for value in bad_placements():
            with self.subTest(value=value):
                refused(self, BadPlacement, value, lets, NET, value)
                refused(self, BadPlacement, value, score, NET, value)
                refused(self, BadPlacement, value, between, NET, value, 'a', 'b')
                refused(self, BadPlacement, value, mixture, NET, value, DRAWN, ONE)
                refused(self, BadPlacement, value, mixture, NET, DRAWN, value, ONE)
                refused(self, BadPlacement, value, lets, placement=value, net=NET)

    def test_no_name(self):
        for value in odd_values() + ['c', 'A', ('a',)]:
            with self.subTest(value=value):
                refused(self, NoName, value, between, NET, DRAWN, value, 'a')
                refused(self, NoName, value, between, NET, DRAWN, 's', value)

    def test_bad_share(self):
        for value in odd_values() + not_fractions() + [(-1, 2), (3, 2), (1000001, 1000000), (-1, 1000000), (2, 1)]:
            with self.subTest(value=value):
                refused(self, BadShare, value, mixture, NET, DRAWN, OTHER, value)

    def test_bad_moves(self):
        good = ((ONE, NONE), (NONE, NONE))
        wrong = odd_values() + not_fractions() + [
            (), good[:1], good + good, list(good), ([ONE, NONE], good[1]), (good[0], (NONE,)), (good[0], (NONE,) * 3),
            ((NONE,) * 3,) * 2, ((NONE,),) * 2,
        ]
        for value in wrong + [(good[0], (NONE, part)) for part in not_fractions()]:
            with self.subTest(value=value):
                refused(self, BadMoves, value, moved, NET, value, ONE)
        for value in odd_values() + [((),), ((NONE,),)]:
            refused(self, BadMoves, value, moved, BARE, value, ONE)

    def test_bad_step(self):
        for value in odd_values() + not_fractions():
            with self.subTest(value=value):
                refused(self, BadStep, value, moved, NET, ((ONE, NONE), (NONE, NONE)), value)

    def test_the_first_of_several_errors(self):
        refused(self, BadPlacement, None, between, NET, None, None, 5)
        refused(self, NoName, 5, between, NET, DRAWN, 5, None)
        refused(self, BadPlacement, None, between, other=7, one=5, placement=None, net=NET)
        refused(self, BadPlacement, 1, mixture, NET, 1, 2, 3)
        refused(self, BadPlacement, 2, mixture, NET, DRAWN, 2, 3)
        refused(self, BadPlacement, 1, mixture, share=3, other=2, one=1, net=NET)
        refused(self, BadMoves, 1, moved, NET, 1, 2)
        refused(self, BadMoves, 1, moved, step=2, moves=1, net=NET)


class TestAll(unittest.TestCase):
    def placements(self, net):
        """The picture, one that shortens what it can, both in more coordinates, and a mixture."""
        found = [picture(net)] + [rows for rows in (further(net),) if rows is not None]
        found += [tuple(row + (NONE,) * (12 - net.coords) for row in rows) for rows in found]
        return found + [mixture(net, found[0], found[-1], (2, 3))]

    def check_told(self, net, rows):
        places = put(net, rows)
        self.assertIs(is_placement(net, rows), True)
        loose = [square_between(drawn(net), *ends) - square_between(places, *ends) for ends in net.cords]
        self.assertEqual(exact(lets(net, rows)), loose)
        total = sum(a * b for ring in net.rings for a, b in zip(weights(net)[ring], places[ring]))
        self.assertEqual(score(net, rows), told(total))
        for one in net.pegs[:2] + net.rings:
            for other in net.pegs[-1:] + net.rings:
                self.assertEqual(between(net, rows, one, other), told(square_between(places, one, other)))

    def check_mixed(self, net, one, other, share):
        mixed, part = mixture(net, one, other, share), Fraction(*share)
        self.assertIs(is_placement(net, mixed), True)
        scores = [Fraction(*score(net, rows)) for rows in (one, other, mixed)]
        self.assertEqual(scores[2], (1 - part) * scores[0] + part * scores[1])
        many = max(len((one + ((),))[0]), len((other + ((),))[0]))
        both = [put(net, tuple(row + (NONE,) * (many - len(row)) for row in rows)) for rows in (one, other)]
        loose = zip(net.cords, *[exact(lets(net, rows)) for rows in (one, other, mixed)])
        for (end, far), first, second, third in loose:
            ways = [[b - a for a, b in zip(places[end], places[far])] for places in both]
            apart = sum((a - b) ** 2 for a, b in zip(*ways))
            self.assertEqual(third, (1 - part) * first + part * second + part * (1 - part) * apart)

    def check_net(self, net):
        found = self.placements(net)
        for rows in found:
            self.check_told(net, rows)
        for one in found[:2]:
            for other in found[-2:]:
                self.check_mixed(net, one, other, (1, 3))
                self.check_mixed(net, other, one, (3, 4))
        still = ((NONE,) * net.coords,) * len(net)
        self.assertEqual(moved(net, still, (-5, 2)), picture(net))
        moves = tuple(tuple((number + at, 7) if (number + at) % 7 else NONE for at in range(net.coords))
                      for number in range(len(net)))
        expected = [[a + Fraction(*b) * Fraction(-2, 9) for a, b in zip(drawn(net)[ring], row)]
                    for ring, row in zip(net.rings, moves)]
        self.assertEqual([exact(row) for row in moved(net, moves, (-2, 9))], expected)

    def test_all_nets(self):
        for net in random_nets(60):
            with self.subTest(net.text):
                self.check_net(net)

    def test_at_bounds(self):
        for coords in (1, 2, 3):
            for net in (bound_net(coords), grid_net(coords)):
                with self.subTest(net.text):
                    self.check_net(net)


if __name__ == '__main__':
    unittest.main()
