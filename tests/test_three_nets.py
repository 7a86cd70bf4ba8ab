"""Sections 16 to 18 on three nets: what was written down of them, and how long many calls may take."""

import time
import unittest
from fractions import Fraction

from cordsatrest.errors import BadRoof, BadSecond, BadSites, BadSpot, BadStress
from cordsatrest.flat import is_flat, is_stress, lands, lands_at, rim, sides, stress_basis
from cordsatrest.near import are_sites, nearest, sites_of, stress_from
from cordsatrest.nets import Net
from cordsatrest.roofs import bulges, creases, height, is_roof, roof_of, shows_creases, stress_of
from cordsatrest.seconds import is_second, roof_by, second_of, stress_by
from support import exact, refused, told
from three_nets import ONE, THREE, TWO, numbers, row, rows

# so many calls may take so many seconds: far more than they do, so that a slow machine does not fail the test
CALLS, BOUND = 200, 5


def net_told(texts):
    return Net(texts['text'].replace('; ', '\n'))


def sum_of(value):
    """The sum of rows."""
    return tuple(told(sum(parts)) for parts in zip(*map(exact, value)))


def with_more(value, at, part):
    """A row with so much more at this place."""
    return value[:at] + (told(Fraction(*value[at]) + part),) + value[at + 1:]


def changed(value):
    """The rows, with one number otherwise: each one in turn."""
    found = []
    for number, line in enumerate(value):
        for at in range(len(line)):
            found.append(value[:number] + (with_more(line, at, Fraction(1, 7)),) + value[number + 1:])
    return found


def shifted(value, way):
    """The rows, with so much more in each of them."""
    return tuple(tuple(told(a + b) for a, b in zip(exact(line), way)) for line in value)


class TestAnswers(unittest.TestCase):
    def nets(self):
        """(net, texts of what is written down of it)."""
        return [(net_told(texts), texts) for texts in (ONE, TWO, THREE)]

    def stresses(self):
        """(net, stress, its roof, its second net)."""
        found = [(net, words) for net, texts in self.nets() for words in texts['stresses']]
        return [(net, row(words['stress']), rows(words['roof']), rows(words['second'])) for net, words in found]

    def test_lands(self):
        for net, texts in self.nets():
            self.assertIs(is_flat(net), True)
            self.assertEqual(rim(net), tuple(texts['rim'].split()))
            self.assertEqual(lands(net), tuple(tuple(walk.split()) for walk in texts['lands'].split(';')))
            self.assertEqual(sides(net), tuple(map(numbers, texts['sides'].split(';'))))
            for spot, (around, _) in texts['spots'].items():
                self.assertEqual(lands_at(net, row(spot)), numbers(around))

    def test_stresses(self):
        for net, texts in self.nets():
            self.assertEqual(stress_basis(net), rows(texts['stress_basis']))
            self.assertEqual(row(texts['stresses'][0]['stress']), sum_of(stress_basis(net)))
        for net, stress, _, _ in self.stresses():
            self.assertIs(is_stress(net, stress), True)
            for at in range(len(stress)):
                wrong = with_more(stress, at, Fraction(-1, 60))
                self.assertIs(is_stress(net, wrong), False)
                for call in (roof_of, second_of, sites_of):
                    refused(self, BadStress, wrong, call, net, wrong)

    def test_roofs(self):
        for net, stress, roof, _ in self.stresses():
            self.assertEqual(roof_of(net, stress), roof)
            for value in (roof, shifted(roof, (Fraction(1, 3), -5, 7))):
                self.assertIs(is_roof(net, value), True)
                self.assertEqual(stress_of(net, value), stress)
            for wrong in changed(roof) + [roof[::-1], roof[1:]]:
                self.assertIs(is_roof(net, wrong), False)
                for call in (stress_of, bulges):
                    refused(self, BadRoof, wrong, call, net, wrong)
                refused(self, BadRoof, wrong, height, net, wrong, None)

    def test_bulges_and_heights(self):
        for net, texts in self.nets():
            for words in texts['stresses']:
                self.assertEqual(bulges(net, rows(words['roof'])), words['bulges'])
            roof = rows(texts['stresses'][0]['roof'])
            for spot, (around, high) in texts['spots'].items():
                if around:
                    self.assertEqual(height(net, roof, row(spot)), row(high)[0])
                else:
                    refused(self, BadSpot, row(spot), height, net, roof, row(spot))

    def test_creases(self):
        for net, texts in self.nets():
            roof = rows(texts['creases'])
            self.assertEqual(creases(net), ('roof', roof))
            self.assertEqual(stress_of(net, roof), row(texts['pulls']))
            self.assertIs(shows_creases(net, ('roof', shifted(roof, (3, Fraction(-2, 9), 1)))), True)
            self.assertIs(shows_creases(net, ('slack', (((1, 1), (0, 1)),) * len(net))), False)
            for wrong in changed(roof) + [rows(words['roof']) for words in texts['stresses'] if words['bulges'] != ('bulges',)]:
                self.assertIs(shows_creases(net, ('roof', wrong)), False)

    def test_second_nets(self):
        for net, stress, roof, second in self.stresses():
            self.assertEqual(second_of(net, stress), second)
            self.assertIs(is_second(net, second), True)
            self.assertEqual(stress_by(net, second), stress)
            self.assertEqual(roof_by(net, second), roof)
            aside = shifted(second, (Fraction(-1, 2), 3))
            self.assertEqual(stress_by(net, aside), stress)
            self.assertEqual(roof_by(net, aside), shifted(roof, (Fraction(1, 2), -3, 0)))
            for wrong in changed(second) + [second[::-1], second[1:]]:
                self.assertIs(is_second(net, wrong), False)
                for call in (stress_by, roof_by):
                    refused(self, BadSecond, wrong, call, net, wrong)

    def test_sites(self):
        for net, texts in self.nets():
            stress, sites = row(texts['pulls']), rows(texts['sites'])
            self.assertEqual(sites_of(net, stress), sites)
            self.assertIs(are_sites(net, sites), True)
            self.assertEqual(stress_from(net, sites), stress)
            for spot, (around, _) in texts['spots'].items():
                if around:
                    self.assertEqual(nearest(net, sites, row(spot)), numbers(around))
                else:
                    refused(self, BadSpot, row(spot), nearest, net, sites, row(spot))
            other = row(texts['stresses'][1]['stress'])
            refused(self, BadStress, other, sites_of, net, other)
            for wrong in changed(sites) + [sites[::-1], sites[1:]]:
                self.assertIs(are_sites(net, wrong), False)
                refused(self, BadSites, wrong, stress_from, net, wrong)
                refused(self, BadSites, wrong, nearest, net, wrong, None)


def calls(texts):
    """(function, further arguments) for each function of sections 16 to 18."""
    words, spots = texts['stresses'][0], [row(spot) for spot, (around, _) in texts['spots'].items() if around]
    stress, roof, second = row(words['stress']), rows(words['roof']), rows(words['second'])
    pulls, crease, sites = row(texts['pulls']), ('roof', rows(texts['creases'])), rows(texts['sites'])
    found = [(call, ()) for call in (is_flat, rim, lands, sides, stress_basis, creases)]
    found += [(call, (stress,)) for call in (is_stress, roof_of, second_of)] + [(sites_of, (pulls,))]
    found += [(call, (roof,)) for call in (is_roof, stress_of, bulges)] + [(shows_creases, (crease,))]
    found += [(call, (second,)) for call in (is_second, stress_by, roof_by)]
    found += [(call, (sites,)) for call in (are_sites, stress_from)]
    return found + [(lands_at, (spots[0],)), (height, (roof, spots[0])), (nearest, (sites, spots[0]))]


class TestTime(unittest.TestCase):
    def test_many_calls(self):
        for texts in (ONE, TWO, THREE):
            net = net_told(texts)
            for call, args in calls(texts):
                with self.subTest(net=net.text, call=call.__name__):
                    begun = time.process_time()
                    for _ in range(CALLS):
                        call(net, *args)
                    self.assertLess(time.process_time() - begun, BOUND)

    def test_all_functions_are_timed(self):
        self.assertEqual(len({call for call, _ in calls(ONE)}), 22)


if __name__ == '__main__':
    unittest.main()
