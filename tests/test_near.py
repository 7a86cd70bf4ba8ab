"""Section 18: sites, and lands by weighted nearness."""

import random
import unittest
from fractions import Fraction

from cordsatrest.errors import BadSites, BadSpot, BadStress, NotFlat
from cordsatrest.flat import lands, lands_at, stress_basis
from cordsatrest.near import are_sites, nearest, sites_of, stress_from
from cordsatrest.nets import Net
from cordsatrest.roofs import creases, roof_of, stress_of
from cordsatrest.seconds import second_of
from flats import (
    BARE, CROSS, LOOSE, NOT_FLAT, TENT, TREE, creased_flats, expected_lands_at, expected_sides, full_arcs, full_flats,
    full_star, random_flats, spots_for, stresses_of,
)
from support import exact, net_of, not_fractions, odd_values, refused, told

NONE, ONE = (0, 1), (1, 1)
STRESS = ((2, 1), ONE, ONE)
SITES = ((NONE, NONE, NONE), ((-1, 1), ONE, (2, 1)), ((1, 2), (3, 2), (-3, 2)))


def positive(net):
    """Some stresses above 0 at each cord of a net that creases."""
    own = exact(stress_of(net, creases(net)[1]))
    found = [own, [part * Fraction(3, 7) for part in own]]
    for stress in stresses_of(net, stress_basis(net)):
        share = Fraction(1)
        while not all(a + share * b > 0 for a, b in zip(own, exact(stress))):
            share /= 2
        found.append([a + share * b for a, b in zip(own, exact(stress))])
    return [tuple(map(told, row)) for row in found]


def far(site, spot):
    x, y, off = exact(site)
    return (exact(spot)[0] - x) ** 2 + (exact(spot)[1] - y) ** 2 - off


def least_far(sites, spot):
    ways = [far(site, spot) for site in sites]
    return tuple(at for at, way in enumerate(ways) if way == min(ways))


def shifted(sites, way, more):
    """The sites shifted, with as much taken off as makes how far lands are differ as before."""
    found = []
    for site in sites:
        x, y, off = exact(site)
        off += 2 * (x * way[0] + y * way[1]) + more
        found.append(tuple(map(told, (x + way[0], y + way[1], off))))
    return tuple(found)


def changed(sites, at, place, part):
    row = sites[at][:place] + (part,) + sites[at][place + 1:]
    return sites[:at] + (row,) + sites[at + 1:]


class TestSites(unittest.TestCase):
    def check(self, net, stress, sites, spots):
        """That sites fit, by the words, as far as these spots tell; and that they are those of this stress."""
        self.assertIs(are_sites(net, sites), True)
        self.assertEqual(stress_from(net, sites), stress)
        for spot in spots:
            around = expected_lands_at(net, spot)
            if around:
                self.assertEqual(least_far(sites, spot), around)

    def test_sites_of(self):
        chance = random.Random(2)
        for net in creased_flats(20):
            spots = spots_for(net, chance)
            for stress in positive(net):
                with self.subTest(net=net.text, stress=stress):
                    sites = sites_of(net, stress)
                    self.check(net, stress, sites, spots)
                    for site, spot, plane in zip(sites, second_of(net, stress), roof_of(net, stress)):
                        (x, y), c = exact(spot), exact(plane)[2]
                        self.assertEqual(exact(site), [x / 2, y / 2, (x * x + y * y) / 4 - c])

    def test_sites_shifted_alike(self):
        chance = random.Random(3)
        for net in creased_flats(20):
            for stress in positive(net)[:3]:
                sites = shifted(sites_of(net, stress), (Fraction(-5, 3), Fraction(7, 11)), Fraction(17, 4))
                self.check(net, stress, sites, spots_for(net, chance, 4)[::3])
                # all further by as much
                self.check(net, stress, shifted(sites, (0, 0), Fraction(-1, 3)), [])

    def test_one_number_otherwise(self):
        for net in creased_flats(20):
            for stress in positive(net)[:1]:
                sites = sites_of(net, stress)
                for at in range(len(sites)):
                    for place in range(3):
                        value = changed(sites, at, place, told(exact(sites[at])[place] + Fraction(1, 5)))
                        self.assertIs(are_sites(net, value), len(sites) == 1)
                        if len(sites) > 1:
                            refused(self, BadSites, value, stress_from, net, value)

    def test_exchanged(self):
        for net in creased_flats(20):
            sites = sites_of(net, positive(net)[0])
            if len(sites) > 2:
                self.assertIs(are_sites(net, sites[1:] + sites[:1]), False)
                self.assertIs(are_sites(net, (sites[1], sites[0]) + sites[2:]), False)
                self.assertIs(are_sites(net, sites[1:]), False)
                self.assertIs(are_sites(net, sites + sites[:1]), False)
                self.assertIs(are_sites(net, list(sites)), False)

    def test_not_above_nought(self):
        row = (ONE, ONE, (2, 1), (2, 3))
        self.assertIs(are_sites(CROSS, sites_of(CROSS, row)), True)
        for part in ((0, 1), (-1, 1)):
            wrong = (ONE, part, (2, 1), told(Fraction(2 * part[0], 3)))
            refused(self, BadStress, wrong, sites_of, CROSS, wrong)
            # what they would be
            sites = tuple(
                tuple(map(told, (x / 2, y / 2, (x * x + y * y) / 4 - exact(plane)[2])))
                for (x, y), plane in zip(map(exact, second_of(CROSS, wrong)), roof_of(CROSS, wrong))
            )
            self.assertIs(are_sites(CROSS, sites), False)
            refused(self, BadSites, sites, stress_from, CROSS, sites)
        refused(self, BadStress, ((-2, 1), (-1, 1), (-1, 1)), sites_of, TENT, ((-2, 1), (-1, 1), (-1, 1)))
        refused(self, BadStress, (NONE,) * 3, sites_of, TENT, (NONE,) * 3)

    def test_a_cord_with_one_land_at_both_sides(self):
        refused(self, BadStress, (NONE,) * 3, sites_of, LOOSE, (NONE,) * 3)
        for site in ((NONE, NONE, NONE), (ONE, (-3, 7), ONE)):
            self.assertIs(are_sites(TREE, (site,)), False)
            self.assertIs(are_sites(LOOSE, (site, site)), False)
        # with one cord more than what creases
        net = Net(CROSS.text.replace('cord e r', 'ring t 1/2 1/2 0 0\ncord e r') + '\ncord r t')
        sites = sites_of(CROSS, (ONE, ONE, (2, 1), (2, 3)))
        self.assertEqual(len(lands(net)), len(sites))
        self.assertIs(are_sites(net, sites), False)

    def test_some_fit_just_if_there_is_a_roof(self):
        chance = random.Random(4)
        for net in random_flats(70)[:30]:
            if creases(net)[0] == 'roof':
                sites = sites_of(net, stress_of(net, creases(net)[1]))
                self.assertIs(are_sites(net, sites), True)
            else:
                for _ in range(4):
                    value = tuple(tuple((chance.randint(-2, 2), 1) for _ in range(3)) for _ in lands(net))
                    self.assertIs(are_sites(net, value), False)
                for stress in stresses_of(net, stress_basis(net)):
                    refused(self, BadStress, stress, sites_of, net, stress)

    def test_no_cords(self):
        for site in ((NONE, NONE, NONE), (ONE, (-3, 7), (10 ** 11, 13))):
            self.assertIs(are_sites(BARE, (site,)), True)
            self.assertEqual(stress_from(BARE, (site,)), ())
            self.assertEqual(nearest(BARE, (site,), ((0, 1), (-1, 7))), (0,))
            refused(self, BadSpot, ((0, 1), (1, 7)), nearest, BARE, (site,), ((0, 1), (1, 7)))
        self.assertEqual(sites_of(BARE, ()), ((NONE, NONE, NONE),))

    def test_some(self):
        self.assertEqual(sites_of(stress=STRESS, net=TENT), SITES)
        self.assertIs(are_sites(value=SITES, net=TENT), True)
        self.assertEqual(stress_from(sites=SITES, net=TENT), STRESS)
        self.assertEqual(nearest(spot=(ONE, ONE), sites=SITES, net=TENT), (0, 1, 2))
        self.assertIs(are_sites(TENT, shifted(SITES, (5, -5), -3)), True)

    def test_values_that_are_no_sites(self):
        values = odd_values() + [
            SITES[::-1], SITES[:2], SITES + SITES[:1], list(SITES), (list(SITES[0]),) + SITES[1:], (), (NONE,) * 3,
            ((NONE, NONE),) * 3, ((NONE,) * 4,) * 3, changed(SITES, 2, 2, NONE), changed(SITES, 0, 2, (1, 10 ** 11)),
            (SITES,), STRESS, ((NONE, NONE, NONE),) * 3, changed(SITES, 1, 0, ONE),
        ] + [changed(SITES, 0, 2, part) for part in not_fractions()]
        for value in values:
            with self.subTest(value=value):
                self.assertIs(are_sites(TENT, value), False)
                refused(self, BadSites, value, stress_from, TENT, value)
                refused(self, BadSites, value, nearest, TENT, value, (NONE, NONE))
                refused(self, BadSites, value, nearest, TENT, value, None)

    def test_no_stress(self):
        for value in odd_values() + [
            (ONE, ONE, ONE), [(2, 1), ONE, ONE], ((2, 1), ONE), STRESS + (ONE,), (), ((2, 1), ONE, 1), ((4, 2), ONE, ONE), SITES,
        ] + [((2, 1), ONE, part) for part in not_fractions()]:
            with self.subTest(value=value):
                refused(self, BadStress, value, sites_of, TENT, value)

    def test_not_flat_ahead_of_all_else(self):
        for word, lines in NOT_FLAT.items():
            net = net_of(*lines)
            for value in (None, (), [0], SITES, ((0, 1), (0, 1))):
                for call in (are_sites, sites_of, stress_from):
                    with self.subTest(word=word, call=call.__name__, value=value):
                        refused(self, NotFlat, None, call, net, value)
                refused(self, NotFlat, None, nearest, net, value, value)
                refused(self, NotFlat, None, nearest, net=net, spot=value, sites=value)


class TestNearest(unittest.TestCase):
    def test_nearest_is_lands_at(self):
        chance = random.Random(5)
        for net in creased_flats(20):
            for sites in (sites_of(net, positive(net)[0]), shifted(sites_of(net, positive(net)[-1]), (Fraction(1, 3), -4), 1)):
                for spot in spots_for(net, chance)[::2]:
                    around = lands_at(net, spot)
                    if around:
                        self.assertEqual(nearest(net, sites, spot), around)
                    else:
                        refused(self, BadSpot, spot, nearest, net, sites, spot)

    def test_within_on_cords_at_places_on_the_rim_outside(self):
        for spot, expected in (
            (((2, 1), (1, 3)), (0,)), (((1, 2), (2, 1)), (1,)), ((ONE, (2, 1)), (2,)), (((1, 2), (1, 2)), (0, 1)),
            (((5, 2), (1, 2)), (0, 2)), ((ONE, ONE), (0, 1, 2)), ((NONE, NONE), (0, 1)), (((4, 1), NONE), (0, 2)),
            ((NONE, (4, 1)), (1, 2)), (((2, 1), NONE), (0,)), ((NONE, (2, 1)), (1,)), (((2, 1), (2, 1)), (2,)),
        ):
            self.assertEqual(nearest(TENT, SITES, spot), expected)
            self.assertEqual(nearest(TENT, shifted(SITES, (7, -1), Fraction(1, 9)), spot), expected)
        for spot in (((5, 1), NONE), ((2, 1), (-1, 10 ** 12 - 1)), ((2, 1), (61, 30)), ((-9, 1), (-9, 1))):
            refused(self, BadSpot, spot, nearest, TENT, SITES, spot)

    def test_no_spot(self):
        values = [(NONE,), (NONE, NONE, NONE), [NONE, NONE], (0, 0), ([0, 1], NONE), SITES]
        for value in odd_values() + values + [(ONE, part) for part in not_fractions()]:
            with self.subTest(value=value):
                refused(self, BadSpot, value, nearest, TENT, SITES, value)

    def test_each_at_bounds(self):
        chance = random.Random(6)
        for net in (full_arcs(), full_star()):
            for stress in positive(net)[:2]:
                sites = sites_of(net, stress)
                self.assertEqual(len(sites), 13)
                TestSites.check(self, net, stress, sites, spots_for(net, chance))
                for spot in spots_for(net, chance)[::8]:
                    if expected_lands_at(net, spot):
                        self.assertEqual(nearest(net, sites, spot), expected_lands_at(net, spot))
        for net in full_flats():
            self.assertEqual(len(expected_sides(net)), 20)
            self.assertIs(are_sites(net, ((NONE, NONE, NONE),) * 13), False)


if __name__ == '__main__':
    unittest.main()
