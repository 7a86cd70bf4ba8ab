"""Section 17: roofs over flat nets."""

import random
import unittest
from fractions import Fraction

from cordsatrest.errors import BadRoof, BadSpot, BadStress
from cordsatrest.flat import is_stress, lands, lands_at, stress_basis
from cordsatrest.nets import Net
from cordsatrest.pulls import pulled
from cordsatrest.roofs import bulges, creases, height, is_roof, roof_of, shows_creases, stress_of
from cordsatrest.rounds import round_of
from flats import (
    BARE, CROSS, LOOSE, SMALL, TENT, TREE, creased_flats, expected_lands_at, expected_sides, full_flats, less, random_flats,
    spots_for, stresses_of,
)
from support import drawn, exact, net_of, not_fractions, odd_values, refused, told

NONE, ONE = (0, 1), (1, 1)
CORNER = Net(TENT.text.replace('\ncord c m', ''))
STRESS = ((2, 1), ONE, ONE)
PLANE = (Fraction(2, 3), Fraction(-1, 7), Fraction(5))


def some_flats():
    return list(SMALL) + [CORNER] + random_flats(70)[:40] + creased_flats(16)


def some_stresses(net):
    return stresses_of(net, stress_basis(net))


def over(plane, spot):
    """The height of a plane over a spot, as Fractions."""
    a, b, c = exact(plane)
    return a * spot[0] + b * spot[1] + c


def with_plane(roof, plane, times=1):
    """The roof, each plane times a number, with one plane added over all lands."""
    return tuple(tuple(told(times * a + b) for a, b in zip(exact(row), plane)) for row in roof)


def changed(value, at, place, part):
    """The tuple of rows with another part at this place of one row."""
    row = value[at][:place] + (part,) + value[at][place + 1:]
    return value[:at] + (row,) + value[at + 1:]


def gains(net, moves):
    """What each cord gains by moves."""
    places, rows = drawn(net), {name: [0, 0] for name in net.pegs}
    rows.update(zip(net.rings, map(exact, moves)))
    found = []
    for one, other in net.cords:
        found.append(sum(a * b for a, b in zip(less(places[one], places[other]), less(rows[one], rows[other]))))
    return found


def is_right_roof(net, planes):
    """Whether both lands' planes have equal heights over both ends of each cord."""
    for pair, ends in zip(expected_sides(net), net.cords):
        for name in ends:
            if over(planes[pair[0]], drawn(net)[name]) != over(planes[pair[1]], drawn(net)[name]):
                return False
    return True


class TestRoofs(unittest.TestCase):
    def check_roof(self, net, stress, roof, chance):
        """That the roof belongs to the stress, by the words."""
        self.assertEqual(len(roof), len(lands(net)))
        self.assertEqual(roof[0], (NONE, NONE, NONE))
        self.assertTrue(is_right_roof(net, roof))
        for part, (left, right), (one, other) in zip(exact(stress), expected_sides(net), net.cords):
            (ax, ay), (bx, by) = drawn(net)[one], drawn(net)[other]
            for _ in range(3):
                x, y = Fraction(chance.randint(-20, 20), 3), Fraction(chance.randint(-20, 20), 7)
                expected = part * ((bx - ax) * (y - ay) - (by - ay) * (x - ax))
                self.assertEqual(over(roof[right], (x, y)) - over(roof[left], (x, y)), expected)

    def test_roof_of_and_stress_of(self):
        chance = random.Random(2)
        for net in some_flats():
            for stress in some_stresses(net):
                with self.subTest(net=net.text, stress=stress):
                    roof = roof_of(net, stress)
                    self.check_roof(net, stress, roof, chance)
                    self.assertIs(is_roof(net, roof), True)
                    self.assertEqual(stress_of(net, roof), stress)
                    self.assertEqual(stress_of(net, with_plane(roof, PLANE)), stress)
                    for at, (left, right) in enumerate(expected_sides(net)):
                        self.assertEqual(roof[left] != roof[right], stress[at] != NONE)

    def test_sums(self):
        for net in some_flats():
            for one, other in zip(some_stresses(net), some_stresses(net)[1:]):
                total = tuple(told(a + b) for a, b in zip(exact(one), exact(other)))
                rows = zip(roof_of(net, one), roof_of(net, other))
                added = tuple(tuple(told(a + b) for a, b in zip(exact(row), exact(far))) for row, far in rows)
                self.assertEqual(roof_of(net, total), added)
                self.assertEqual(stress_of(net, with_plane(added, PLANE)), total)

    def test_every_roof_has_a_stress(self):
        """A roof over land 0 at 0 is that of its stress; each roof is one with a plane added."""
        for net in some_flats():
            for stress in some_stresses(net):
                roof = with_plane(roof_of(net, stress), PLANE, Fraction(-3, 5))
                self.assertIs(is_roof(net, roof), True)
                found = stress_of(net, roof)
                self.assertIs(is_stress(net, found), True)
                self.assertEqual(with_plane(roof_of(net, found), exact(roof[0])), roof)

    def test_one_land(self):
        for net in (BARE, TREE):
            none = (NONE,) * len(net.cords)
            self.assertEqual(roof_of(net, none), ((NONE, NONE, NONE),))
            roof = (((1, 2), (-3, 1), (7, 60)),)
            self.assertEqual((is_roof(net, roof), stress_of(net, roof), bulges(net, roof)), (True, none, ('bulges',)))

    def test_the_tent(self):
        tent = roof_of(stress=STRESS, net=TENT)
        self.assertEqual(tent, ((NONE, NONE, NONE), ((2, 1), (-2, 1), NONE), ((-1, 1), (-3, 1), (4, 1))))
        self.assertEqual(stress_of(roof=tent, net=TENT), STRESS)
        self.assertEqual(height(spot=((1, 2), (1, 3)), roof=tent, net=TENT), NONE)
        self.assertEqual(bulges(roof=tent, net=TENT), ('bulges',))

    def test_values_that_are_no_roof(self):
        tent = roof_of(TENT, STRESS)
        values = odd_values() + [
            tent[::-1], tent[:2], tent + tent[:1], list(tent), (list(tent[0]),) + tent[1:], ((NONE, NONE),) * 3,
            ((NONE,) * 4,) * 3, changed(tent, 0, 2, (1, 60)), changed(tent, 1, 0, (1, 1)), changed(tent, 2, 2, (399, 100)),
            changed(tent, 1, 1, (-2000001, 1000000)), (), (NONE,) * 3, STRESS, (tent,), tent[0],
        ] + [changed(tent, 0, 0, part) for part in not_fractions()]
        for value in values:
            with self.subTest(value=value):
                self.assertIs(is_roof(TENT, value), False)
                refused(self, BadRoof, value, stress_of, TENT, value)
                refused(self, BadRoof, value, bulges, TENT, value)
                refused(self, BadRoof, value, height, TENT, value, (NONE, NONE))
                refused(self, BadRoof, value, height, TENT, value, None)

    def test_near_roofs(self):
        """Of planes with one number otherwise a roof is told just if it is one by the words."""
        for net in some_flats()[::2]:
            for stress in some_stresses(net)[1:2]:
                roof = roof_of(net, stress)
                for at in range(len(roof)):
                    for place in range(3):
                        value = changed(roof, at, place, told(exact(roof[at])[place] + 1))
                        self.assertEqual(is_roof(net, value), is_right_roof(net, value))
                        self.assertEqual(is_roof(net, value), len(roof) == 1)

    def test_no_stress(self):
        for value in odd_values() + [
            (ONE, ONE, ONE), [(2, 1), ONE, ONE], ((2, 1), ONE), STRESS + (NONE,), (), ((2, 1), ONE, 1), ((4, 2), ONE, ONE),
            (STRESS,), ((2, 1), ONE, (True, 1)), ((2, 1), (-1, 1), ONE),
        ]:
            with self.subTest(value=value):
                refused(self, BadStress, value, roof_of, TENT, value)
        refused(self, BadStress, (NONE, NONE, ONE), roof_of, LOOSE, (NONE, NONE, ONE))


class TestHeight(unittest.TestCase):
    def test_by_all_lands(self):
        chance = random.Random(3)
        for net in some_flats()[::2]:
            for stress in some_stresses(net)[:3]:
                roof = with_plane(roof_of(net, stress), PLANE)
                down = bulges(net, roof) == ('bulges',)
                for spot in spots_for(net, chance, 4):
                    around = expected_lands_at(net, spot)
                    if not around:
                        refused(self, BadSpot, spot, height, net, roof, spot)
                        continue
                    found = height(net, roof, spot)
                    self.assertEqual({told(over(roof[land], exact(spot))) for land in around}, {found})
                    least = min(over(plane, exact(spot)) for plane in roof)
                    if down:
                        self.assertEqual(exact([found]), [least])

    def test_a_dent_lies_above_the_least_plane(self):
        chance, dents = random.Random(4), 0
        for net in [net for net in some_flats() if len(net.cords) < 6]:
            spots = [spot for spot in spots_for(net, chance, 30) if expected_lands_at(net, spot)]
            for stress in some_stresses(net)[1:]:
                roof = roof_of(net, stress)
                heights = [over(roof[expected_lands_at(net, spot)[0]], exact(spot)) for spot in spots]
                least = [min(over(plane, exact(spot)) for plane in roof) for spot in spots]
                self.assertEqual(heights == least, bulges(net, roof) == ('bulges',))
                dents += heights != least
        self.assertGreater(dents, 5)

    def test_no_spot(self):
        tent = roof_of(TENT, STRESS)
        values = [((5, 1), NONE), ((-1, 10 ** 12 - 1), ONE), ((2, 1), (61, 30)), (NONE,), (NONE, NONE, NONE), [NONE, NONE], (0, 0)]
        for value in odd_values() + values + [(ONE, part) for part in not_fractions()]:
            with self.subTest(value=value):
                refused(self, BadSpot, value, height, TENT, tent, value)
        for spot in ((NONE, NONE), ((2, 1), (2, 1)), ((2, 1), NONE), ((4, 1), NONE), (ONE, ONE)):
            self.assertEqual(exact([height(TENT, tent, spot)])[0], min(over(plane, exact(spot)) for plane in tent))


class TestBulges(unittest.TestCase):
    def test_the_first_cord_that_dents(self):
        many = {'bulges': 0, 'dents': 0}
        for net in some_flats():
            for stress in some_stresses(net):
                for times in (1, -1):
                    roof = with_plane(roof_of(net, stress), PLANE, times)
                    dents = [cord for cord, part in enumerate(stress) if part[0] * times < 0]
                    expected = ('dents', dents[0]) if dents else ('bulges',)
                    self.assertEqual(bulges(net, roof), expected)
                    many[expected[0]] += 1
        self.assertGreater(min(many.values()), 40)
        row = ((ONE), NONE, (2, 1), NONE)
        self.assertEqual(bulges(CROSS, roof_of(CROSS, row)), ('bulges',))
        self.assertEqual(bulges(CROSS, roof_of(CROSS, (ONE, (-1, 1), (2, 1), (-2, 3)))), ('dents', 1))


class TestCreases(unittest.TestCase):
    def is_right(self, net, value):
        """Whether a told value is right, by the words."""
        if value[0] == 'roof':
            if not is_right_roof(net, value[1]):
                return False
            creased = all(value[1][left] != value[1][right] for left, right in expected_sides(net))
            return creased and all(part[0] >= 0 for part in stress_of(net, value[1]))
        found = gains(net, value[1])
        return max(found) <= 0 and min(found) < 0

    def test_by_the_words(self):
        many = {'roof': 0, 'slack': 0}
        for net in some_flats() + list(random_flats(70)):
            with self.subTest(net.text):
                found = creases(net)
                self.assertTrue(self.is_right(net, found))
                self.assertIs(shows_creases(net, found), True)
                # all cords are pulled by some pulls, just if there is a roof
                expected = all(pull[0] > 0 for pull in pulled(net, ()))
                self.assertEqual(found[0], 'roof' if expected else 'slack')
                many[found[0]] += 1
                if expected:
                    self.assertEqual([round_of(net, ring) for ring in net.rings], [1] * len(net))
        self.assertGreater(min(many.values()), 25)

    def test_there_is_just_one_of_both(self):
        chance, refused_moves = random.Random(5), 0
        for net in some_flats():
            if creases(net)[0] == 'roof':
                for _ in range(6):
                    moves = tuple(tuple((chance.randint(-3, 3), 1) for _ in range(2)) for _ in net.rings)
                    self.assertIs(shows_creases(net, ('slack', moves)), False)
                    refused_moves += 1
            else:
                for stress in some_stresses(net):
                    self.assertIs(shows_creases(net, ('roof', roof_of(net, stress))), False)
        self.assertGreater(refused_moves, 50)

    def test_other_roofs_and_moves_are_shown(self):
        chance = random.Random(6)
        shown = {True: 0, False: 0}
        for net in some_flats():
            word, told_value = creases(net)
            if word == 'roof':
                for value in (with_plane(told_value, PLANE, 7), with_plane(told_value, PLANE, Fraction(1, 9))):
                    self.assertIs(shows_creases(net, ('roof', value)), True)
                self.assertIs(shows_creases(net, ('roof', with_plane(told_value, PLANE, -1))), not net.cords)
                self.assertIs(shows_creases(net, ('roof', with_plane(told_value, PLANE, 0))), not net.cords)
            else:
                for _ in range(8):
                    aside = [[Fraction(chance.randint(-2, 2), chance.choice((1, 9))) for _ in range(2)] for _ in net.rings]
                    moves = tuple(tuple(told(a + b) for a, b in zip(exact(row), far)) for row, far in zip(told_value, aside))
                    expected = self.is_right(net, ('slack', moves))
                    self.assertIs(shows_creases(net, ('slack', moves)), expected)
                    shown[expected] += 1
        self.assertGreater(min(shown.values()), 15)

    def test_a_cord_without_a_crease(self):
        # only the line from east to west
        roof = roof_of(CROSS, (ONE, NONE, (2, 1), NONE))
        self.assertIs(shows_creases(CROSS, ('roof', roof)), False)
        self.assertIs(shows_creases(CROSS, ('roof', roof_of(CROSS, (ONE, ONE, (2, 1), (2, 3))))), True)
        self.assertIs(shows_creases(CROSS, ('roof', roof_of(CROSS, (ONE, (-1, 1), (2, 1), (-2, 3))))), False)
        # with one more cord, which has one land at both sides
        more = Net(CROSS.text.replace('cord e r', 'ring t 1/2 1/2 0 0\ncord e r') + '\ncord r t')
        self.assertEqual(creases(more)[0], 'slack')
        self.assertIs(shows_creases(more, ('roof', roof)), False)
        whole = roof_of(CROSS, (ONE, ONE, (2, 1), (2, 3)))
        self.assertEqual(len(lands(more)), len(lands(CROSS)))
        self.assertIs(is_roof(more, whole), True)
        self.assertIs(shows_creases(more, ('roof', whole)), False)

    def test_moves_that_shorten_nothing(self):
        # m can go along the one line, but cords gain nothing by that
        net = net_of('net 2', 'peg a 0 0', 'peg b 4 0', 'peg c 0 4', 'peg d 4 4', 'ring m 2 2 0 0', 'cord a m', 'cord m d')
        self.assertEqual(creases(net)[0], 'roof')
        self.assertIs(shows_creases(net, ('slack', ((ONE, (-1, 1)),))), False)
        self.assertIs(shows_creases(net, ('slack', ((NONE, NONE),))), False)
        self.assertIs(shows_creases(CORNER, ('slack', ((NONE, NONE),))), False)
        self.assertIs(shows_creases(CORNER, ('slack', ((ONE, (-2, 1)),))), True)
        self.assertIs(shows_creases(CORNER, ('slack', (((-1, 1), (-2, 1)),))), False)
        self.assertIs(shows_creases(CORNER, ('slack', (((-1, 1), (-3, 1)),))), True)
        self.assertIs(shows_creases(CORNER, ('slack', (((-1, 1), (-4, 1)),))), True)
        self.assertIs(shows_creases(CORNER, ('slack', (((-1, 1), NONE),))), False)

    def test_no_cords(self):
        self.assertEqual(creases(BARE), ('roof', ((NONE, NONE, NONE),)))
        self.assertIs(shows_creases(BARE, ('roof', ((ONE, (-5, 7), ONE),))), True)
        self.assertIs(shows_creases(BARE, ('slack', ())), False)

    def test_values_that_are_not_right(self):
        tent, moves = roof_of(TENT, STRESS), ((NONE, (-1, 1)),)
        values = odd_values() + [
            tent, ('roof',), ('roof', tent, tent), ['roof', tent], ('slack', tent), ('Roof', tent), ('roof ', tent), (tent, 'roof'),
            ('roof', list(tent)), ('roof', tent[::-1]), ('roof', tent[:2]), (True, tent), (None, tent), ('roof', STRESS),
            ('roof', changed(tent, 2, 2, (5, 1))), ('bulges',), ('roof', None), ('', tent), (('roof', tent),), ('slack', None),
        ]
        for value in values + [('roof', odd) for odd in odd_values()]:
            with self.subTest(value=value):
                self.assertIs(shows_creases(TENT, value), False)
                self.assertIs(shows_creases(value=value, net=TENT), False)
        values = odd_values() + [
            moves, ('slack',), ('slack', moves, (1, 1)), ['slack', moves], ('slack', list(moves)), ('slack', ([NONE, (-1, 1)],)),
            ('slack', ()), ('slack', moves * 2), ('slack', ((NONE, (-1, 1), NONE),)), ('slack', ((NONE,),)), ('roof', moves),
            ('slack', ((NONE, -1),)), ('slack', (NONE, (-1, 1))), ('lower', moves), ('slack', ((NONE, ONE),)),
        ]
        for value in values + [('slack', odd) for odd in odd_values()] + [('slack', (((-1, 1), part),)) for part in not_fractions()]:
            with self.subTest(value=value):
                self.assertIs(shows_creases(CORNER, value), False)
        self.assertIs(shows_creases(CORNER, ('slack', moves)), True)


class TestBounds(unittest.TestCase):
    def test_each_at_bounds(self):
        chance = random.Random(1)
        words = []
        for net in full_flats():
            found = creases(net)
            words.append(found[0])
            self.assertTrue(TestCreases.is_right(self, net, found))
            self.assertIs(shows_creases(net, found), True)
            for stress in stresses_of(net, stress_basis(net), 2):
                roof = roof_of(net, stress)
                TestRoofs.check_roof(self, net, stress, roof, chance)
                self.assertEqual(stress_of(net, roof), stress)
                dents = [cord for cord, part in enumerate(stress) if part[0] < 0]
                self.assertEqual(bulges(net, roof), ('dents', dents[0]) if dents else ('bulges',))
                for spot in spots_for(net, chance, 2)[::5]:
                    around = expected_lands_at(net, spot)
                    if around:
                        self.assertEqual(height(net, roof, spot), told(over(roof[around[-1]], exact(spot))))
        self.assertEqual(set(words), {'roof', 'slack'})


if __name__ == '__main__':
    unittest.main()
