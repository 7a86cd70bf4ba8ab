"""Section 16: flat nets, their lands and stresses."""

import random
import unittest

from cordsatrest.errors import BadSpot, NotFlat
from cordsatrest.flat import is_flat, is_stress, lands, lands_at, rim, sides, stress_basis
from cordsatrest.nets import Net
from cordsatrest.roofs import bulges, creases, height, is_roof, roof_of, shows_creases, stress_of
from cordsatrest.seconds import is_second, roof_by, second_of, stress_by
from flats import (
    BARE, CROSS, FLAT, LINE, LOOSE, NOT_FLAT, SMALL, SQUARE, TENT, TREE, balance_is, creased_flats, equations,
    expected_flat, expected_lands, expected_lands_at, expected_rim, expected_sides, full_flats, random_flats, rank,
    spots_for, stresses_of,
)
from support import exact, net_of, not_fractions, odd_values, random_nets, refused, told


def names_told(net):
    return net.pegs + net.rings


def some_flats():
    return list(SMALL) + random_flats(70) + creased_flats(16) + [net_of(*lines) for lines in FLAT.values()]


class TestIsFlat(unittest.TestCase):
    def test_nets_that_are_not_flat(self):
        for word, lines in NOT_FLAT.items():
            with self.subTest(word):
                net = net_of(*lines)
                self.assertIs(is_flat(net), False)
                self.assertFalse(expected_flat(net))

    def test_flat_nets(self):
        for word, lines in FLAT.items():
            with self.subTest(word):
                self.assertIs(is_flat(net_of(*lines)), True)
        for net in some_flats() + full_flats():
            self.assertIs(is_flat(net=net), True)

    def test_by_the_words(self):
        chance, many = random.Random(3), {True: 0, False: 0}
        nets = [net for net in random_nets(60) if net.coords == 2]
        for net in nets + [self.shaken(chance, net) for net in random_flats(70) + list(SMALL) for _ in range(4)]:
            with self.subTest(net.text):
                expected = expected_flat(net)
                many[expected] += 1
                self.assertIs(is_flat(net), expected)
        self.assertGreater(many[True], 60)
        self.assertGreater(many[False], 120)

    def shaken(self, chance, net):
        """The net with a name at another place, or a cord taken away."""
        while True:
            lines = net.text.split('\n')
            at = chance.randrange(1, len(lines))
            words = lines[at].split(' ')
            if words[0] == 'cord':
                del lines[at]
            else:
                words[2:4] = [str(chance.randint(-9, 9)) for _ in range(2)]
                lines[at] = ' '.join(words)
            try:
                return Net('\n'.join(lines))
            except ValueError:
                continue

    def test_not_flat_ahead_of_all_else(self):
        wrong = (None, (), [0], 'a', ((0, 1), (0, 1)))
        for word, lines in NOT_FLAT.items():
            net = net_of(*lines)
            for call in (rim, lands, sides, stress_basis, creases):
                refused(self, NotFlat, None, call, net)
                refused(self, NotFlat, None, call, net=net)
            for value in wrong:
                for call in (lands_at, is_stress, is_roof, roof_of, stress_of, bulges, shows_creases, is_second, second_of,
                             stress_by, roof_by):
                    with self.subTest(word=word, call=call.__name__, value=value):
                        refused(self, NotFlat, None, call, net, value)
                refused(self, NotFlat, None, height, net, value, value)


class TestLands(unittest.TestCase):
    def test_rim(self):
        for net in some_flats():
            self.assertEqual(rim(net), expected_rim(net))
            self.assertEqual(rim(net)[0], net.pegs[0])
            self.assertEqual(sorted(rim(net)), sorted(net.pegs))
        self.assertEqual(rim(net_of(*FLAT['pegs in any sequence'])), ('a', 'b', 'c', 'd'))
        self.assertEqual(rim(net_of(*FLAT['with the clock'])), ('a', 'c', 'b'))
        self.assertEqual(rim(TREE), ('a', 'b', 'c', 'd'))
        self.assertEqual(rim(BARE), ('a', 'd', 'b', 'c'))

    def test_lands_and_sides(self):
        for net in some_flats():
            with self.subTest(net.text):
                self.assertEqual(lands(net), expected_lands(net))
                self.assertEqual(sides(net), expected_sides(net))
                self.assertEqual(len(lands(net)), len(net.cords) - len(net.rings) + 1)
                self.check_walks(net)

    def check_walks(self, net):
        """Each walk begins as told, walks ascend, and each step belongs to the land at its left."""
        names, steps, numbers = names_told(net), {}, []
        for land, walk in enumerate(lands(net)):
            row = tuple(names.index(name) for name in walk)
            self.assertEqual(row, min(row[at:] + row[:at] for at in range(len(row))))
            numbers.append(row)
            for step in zip(walk, walk[1:] + walk[:1]):
                self.assertNotIn(step, steps)
                steps[step] = land
        self.assertEqual(numbers, sorted(set(numbers)))
        self.assertEqual(len(steps), 2 * len(net.cords) + len(net.pegs))
        for (one, other), pair in zip(net.cords, sides(net)):
            self.assertEqual(pair, (steps[one, other], steps[other, one]))

    def test_no_cords(self):
        self.assertEqual((lands(BARE), sides(BARE)), ((('a', 'd', 'b', 'c'),), ()))
        self.assertEqual(lands(net_of(*FLAT['with the clock'])), (('a', 'c', 'b'),))

    def test_cords_with_one_land_at_both_sides(self):
        self.assertEqual(lands(TREE), (('a', 'b', 'c', 'd', 'v', 'd', 'a', 'r', 's', 'u', 's', 't', 's', 'r'),))
        self.assertEqual(sides(TREE), ((0, 0),) * 5)
        self.assertEqual(lands(LOOSE)[1], ('a', 'm', 'n', 'm', 'b', 'c'))
        self.assertEqual(sides(LOOSE), ((1, 0), (0, 1), (1, 1)))

    def test_walks_that_pass_a_place_twice(self):
        # r hangs by one cord at a; s and t make a land of their own at it
        net = net_of(*SQUARE, 'ring r 2 2 0 0', 'ring s 4 3 0 0', 'ring t 3 4 0 0', 'cord a r', 'cord r s', 'cord s t', 'cord t r')
        self.assertEqual(lands(net), (('a', 'b', 'c', 'd', 'a', 'r', 't', 's', 'r'), ('r', 's', 't')))
        self.assertEqual(sides(net), ((0, 0), (1, 0), (1, 0), (1, 0)))
        # the least of all beginnings is told by what follows, where the first place comes twice
        self.assertEqual(expected_lands(net), lands(net))

    def test_ends_in_the_other_sequence(self):
        for net in random_flats(70)[:20]:
            lines = net.text.split('\n')
            head = len(lines) - len(net.cords)
            turned = net_of(*lines[:head], *['cord {} {}'.format(other, one) for one, other in net.cords])
            self.assertEqual(lands(turned), lands(net))
            self.assertEqual(sides(turned), tuple((right, left) for left, right in sides(net)))


class TestLandsAt(unittest.TestCase):
    def test_by_turns(self):
        chance = random.Random(6)
        for net in some_flats():
            many = {0: 0, 1: 0}
            for spot in spots_for(net, chance):
                with self.subTest(net=net.text, spot=spot):
                    found = lands_at(net, spot)
                    self.assertEqual(found, expected_lands_at(net, spot))
                    self.assertEqual(found, tuple(sorted(set(found))))
                    many[min(1, len(found))] += 1
            self.assertGreater(many[1], 0)

    def test_outside(self):
        far = 10 ** 12 - 1
        for spot in (((5, 1), (0, 1)), ((-1, 60), (2, 1)), ((2, 1), (61, 30)), ((far, 1), (-far, 1)), ((-1, far), (1, 1)),
                     ((4, 1), (1, far)), ((-1, 1), (0, 1)), ((0, 1), (5, 1))):
            self.assertEqual(lands_at(TENT, spot), ())
        self.assertEqual(lands_at(TENT, ((1, far), (2, 1))), (1,))

    def test_at_places_and_on_cords(self):
        none, half = (0, 1), (1, 2)
        self.assertEqual(lands_at(TENT, (none, none)), (0, 1))
        self.assertEqual(lands_at(TENT, (half, half)), (0, 1))
        self.assertEqual(lands_at(TENT, ((4, 1), none)), (0, 2))
        self.assertEqual(lands_at(TENT, ((3, 1), none)), (0,))
        self.assertEqual(lands_at(TENT, ((3, 1), (1, 1))), (2,))
        # on a cord that hangs in a land, and at its end
        self.assertEqual(lands_at(LOOSE, ((1, 1), (3, 2))), (1,))
        self.assertEqual(lands_at(LOOSE, ((1, 1), (2, 1))), (1,))
        self.assertEqual(lands_at(LOOSE, ((1, 1), (1, 1))), (0, 1))
        self.assertEqual(lands_at(TREE, ((5, 1), (5, 1))), (0,))
        self.assertEqual(lands_at(spot=((1, 1), (1, 1)), net=CROSS), (2,))
        self.assertEqual(lands_at(CROSS, (none, none)), (0, 1, 2, 3))

    def test_a_land_within_another_one(self):
        net = net_of(*SQUARE, 'ring r 2 2 0 0', 'ring s 4 3 0 0', 'ring t 3 4 0 0', 'cord a r', 'cord r s', 'cord s t', 'cord t r')
        self.assertEqual(lands_at(net, ((3, 1), (3, 1))), (1,))
        self.assertEqual(lands_at(net, ((2, 1), (2, 1))), (0, 1))
        self.assertEqual(lands_at(net, ((5, 1), (3, 1))), (0,))
        self.assertEqual(lands_at(net, ((1, 1), (2, 1))), (0,))

    def test_no_spot(self):
        values = [((0, 1),), ((0, 1),) * 3, [(0, 1), (0, 1)], ([0, 1], (0, 1)), (0, 1), (0, 0), ((0, 1), 0), 'ab', ((0, 1), None)]
        for value in odd_values() + values + [((1, 1), part) for part in not_fractions()] + [(part, (1, 1)) for part in not_fractions()]:
            with self.subTest(value=value):
                refused(self, BadSpot, value, lands_at, TENT, value)


class TestStress(unittest.TestCase):
    def test_basis(self):
        many = set()
        for net in some_flats():
            with self.subTest(net.text):
                basis = stress_basis(net)
                self.check_basis(net, basis)
                many.add(len(basis))
        self.assertLessEqual({0, 1, 2, 3, 4}, many)

    def check_basis(self, net, basis):
        """In reduced form, of stresses, as many as there can be."""
        firsts = []
        for row in basis:
            self.assertIs(is_stress(net, row), True)
            self.assertTrue(balance_is(net, row))
            firsts.append(next(at for at, part in enumerate(row) if part != (0, 1)))
        self.assertEqual(firsts, sorted(set(firsts)))
        for first, row in zip(firsts, basis):
            self.assertEqual([row[at] for at in firsts], [(1 if at == first else 0, 1) for at in firsts])
        self.assertEqual(len(basis), len(net.cords) - rank(equations(net)))
        self.assertGreaterEqual(len(basis), len(net.cords) - 2 * len(net.rings))
        for pair, parts in zip(sides(net), zip(*basis)):
            if pair[0] == pair[1]:
                self.assertEqual(set(parts), {(0, 1)})

    def test_every_stress_is_told_by_it(self):
        for net in some_flats():
            basis = stress_basis(net)
            for stress in stresses_of(net, basis):
                self.assertIs(is_stress(net, stress), True)
                firsts = [next(at for at, part in enumerate(row) if part != (0, 1)) for row in basis]
                total = [0] * len(net.cords)
                for first, row in zip(firsts, basis):
                    total = [a + exact(stress)[first] * b for a, b in zip(total, exact(row))]
                self.assertEqual(tuple(map(told, total)), stress)

    def test_some(self):
        self.assertEqual(stress_basis(CROSS), (((1, 1), (0, 1), (2, 1), (0, 1)), ((0, 1), (1, 1), (0, 1), (2, 3))))
        self.assertEqual(stress_basis(BARE), ())
        self.assertEqual(stress_basis(TREE), ())
        self.assertEqual(stress_basis(net=LINE), (((1, 1), (1, 5), (3, 5), (1, 5), (1, 1)),))

    def test_is_stress(self):
        one, none = (1, 1), (0, 1)
        for row in (((2, 1), one, one), ((-2, 7), (-1, 7), (-1, 7)), (none, none, none)):
            self.assertIs(is_stress(TENT, row), True)
        for row in ((one, one, one), ((2, 1), one, (-1, 1)), (one, none, none), ((2, 1), one, (999999999998, 999999999999))):
            self.assertIs(is_stress(TENT, row), False)
        self.assertIs(is_stress(value=(), net=BARE), True)
        self.assertIs(is_stress(BARE, (none,)), False)
        self.assertIs(is_stress(LOOSE, (none, none, none)), True)
        self.assertIs(is_stress(LOOSE, (none, none, one)), False)
        # nothing need balance at pegs, but at every ring
        self.assertIs(is_stress(LINE, ((0, 1), (0, 1), (0, 1), one, one)), False)

    def test_values_that_are_no_stress(self):
        one = (1, 1)
        for value in odd_values() + [[(2, 1), one, one], ((2, 1), one), ((2, 1), one, one, one), ((2, 1), one, 1), (2, 1, 1), ()]:
            with self.subTest(value=value):
                self.assertIs(is_stress(TENT, value), False)
        for part in not_fractions():
            self.assertIs(is_stress(TENT, ((2, 1), one, part)), False)
            self.assertIs(is_stress(TENT, (part, (0, 1), (0, 1))), False)


class TestBounds(unittest.TestCase):
    def test_each_at_bounds(self):
        chance = random.Random(1)
        for net in full_flats():
            self.assertEqual(rim(net), expected_rim(net))
            self.assertEqual(lands(net), expected_lands(net))
            self.assertEqual(sides(net), expected_sides(net))
            TestStress.check_basis(self, net, stress_basis(net))
            for spot in spots_for(net, chance)[::2]:
                self.assertEqual(lands_at(net, spot), expected_lands_at(net, spot))


if __name__ == '__main__':
    unittest.main()
