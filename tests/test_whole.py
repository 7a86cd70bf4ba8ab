"""The whole document: what its first section, and its sentences in bold, promise over all parts together."""

import random
import unittest

from cordsatrest.bench import Bench
from cordsatrest.broken import bare, without
from cordsatrest.changes import cut_off, joined, mapped
from cordsatrest.desk import Desk
from cordsatrest.errors import Adrift, Met, TooFine, TooMany
from cordsatrest.flat import is_flat, is_stress
from cordsatrest.hanging import does_hang, hangs, lower
from cordsatrest.journals import journal, read_journal
from cordsatrest.lots import does_stay, lot_round, lots, other_hanging
from cordsatrest.near import nearest, sites_of
from cordsatrest.nets import Net, cords_at, place_of
from cordsatrest.placements import between, lets, mixture, picture, score
from cordsatrest.pulls import left_over, pulled
from cordsatrest.roofs import creases, stress_of
from cordsatrest.rounds import alike, further, held, round_of, rounds
from cordsatrest.settled import settled
from cordsatrest.strays import bend, stray
from flats import creased_flats, random_flats
from hands import WORKED, do, random_deed
from support import NONE, ONE, exact, hung_nets, knit_nets, random_nets, stairs


def ways_to_lie(net):
    """Some placements of a net, by all parts that tell one."""
    found = [picture(net)]
    others = [further(net), lower(net), other_hanging(net) if does_hang(net) else None]
    for rows in others:
        if rows is not None:
            found += [rows, mixture(net, picture(net), rows, (1, 3))]
    return found


def worked_nets():
    """Nets as hands leave them."""
    chance, found = random.Random(21), []
    for net in knit_nets(40, 7, 71) + hung_nets(40, 7, 72) + random_nets(20, 7, 73) + [WORKED, stairs(3)]:
        bench = Bench(net)
        for _ in range(6):
            deed = random_deed(chance, bench.net.text)
            try:
                do(bench, deed)
            except ValueError:
                continue
            if chance.random() < 0.3:
                bench.undo()
        found += [net, bench.net, read_journal(journal(bench)).net]
    return found


class TestPlaces(unittest.TestCase):
    def test_held_rings_are_where_they_are_drawn(self):
        for net in worked_nets():
            with self.subTest(net.text):
                fast = held(net)
                for rows in ways_to_lie(net):
                    self.check(net, fast, rows)
                rows = further(net)
                self.assertEqual(rows is None, fast == net.rings)
                if rows is not None:
                    for ring, row in zip(net.rings, rows):
                        self.assertEqual(row == place_of(net, ring), ring in fast)
                    for cord, let in enumerate(lets(net, rows)):
                        self.assertEqual(let == NONE, alike(net, cord))

    def check(self, net, fast, rows):
        for ring, row in zip(net.rings, rows):
            if ring in fast:
                self.assertEqual(row, place_of(net, ring))
        for cord, let in enumerate(lets(net, rows)):
            if alike(net, cord):
                self.assertEqual(let, NONE)

    def test_what_hangs_and_what_stays(self):
        moved = 0
        for net in worked_nets():
            with self.subTest(net.text):
                drawn = score(net, picture(net))
                if not does_hang(net):
                    self.assertGreater(exact([score(net, lower(net))]), exact([drawn]))
                    continue
                self.assertIsNone(lower(net))
                rows = other_hanging(net)
                if rows is None:
                    self.assertEqual(len(lots(net)), 1)
                    continue
                self.assertEqual(score(net, rows), drawn)
                moved += 1
                for ring, row in zip(net.rings, rows):
                    self.assertEqual(does_stay(net, ring), row == place_of(net, ring))
                for cord, let in enumerate(lets(net, rows)):
                    self.assertEqual(let == NONE, lot_round(net, *net.cords[cord]) is not None)
        self.assertGreater(moved, 40)

    def test_strays_of_hangings(self):
        """Another hanging, with cords as drawn and no lack of score, is no further than pulls tell."""
        for net in worked_nets():
            word, pulls = hangs(net)[:2]
            if word != 'pulls' or any(part != NONE for row in left_over(net, pulls, True) for part in row):
                continue
            none = (NONE,) * len(net.cords)
            for rows in ways_to_lie(net):
                lack = exact([score(net, picture(net))])[0] - exact([score(net, rows)])[0]
                self.assertGreaterEqual(lack, 0)
                told_lack = (lack.numerator, lack.denominator)
                self.assertGreaterEqual(exact([bend(net, pulls, rows)])[0], 0)
                for ring, row in zip(net.rings, rows):
                    most = stray(net, pulls, none, told_lack, ring, net.pegs[0])
                    if most is not None:
                        way = sum((a - b) ** 2 for a, b in zip(exact(row), exact(place_of(net, ring))))
                        self.assertLessEqual(way, exact([most])[0])


class TestNets(unittest.TestCase):
    def test_cut_off_bare_and_settled(self):
        for net in worked_nets():
            with self.subTest(net.text):
                try:
                    rest = cut_off(net)
                except TooMany:
                    continue
                self.assertEqual((held(rest), does_hang(rest)), ((), does_hang(net)))
                self.assertEqual(held(bare(net)), held(net))
                self.assertEqual(joined(net, bare(net)).cords, net.cords)
                self.assertEqual([round_of(cut_off(bare(net)), ring) for ring in rest.rings], [None] * len(rest))
                try:
                    still = settled(net, (ONE,) * len(net.cords))
                except (Adrift, Met, TooFine):
                    continue
                self.assertTrue(does_hang(still))
                self.assertEqual({part for row in left_over(still, (ONE,) * len(net.cords), True) for part in row} | {NONE}, {NONE})

    def test_benches_and_nets_tell_alike(self):
        for net in worked_nets()[::2]:
            desk = Desk('bench\n' + net.text)
            for cord in range(len(net.cords)):
                gone = desk.bench.tried(lambda found: found.cut(cord))[1]
                self.assertEqual(gone, tuple(ring for ring in held(net) if ring not in held(without(net, cord))))
            self.assertEqual(desk.say('held').replace('-', ''), ' '.join(held(net)))
            self.assertEqual(desk.bench, Bench(net))
            for ring in held(net):
                if len(net.pegs) < 16:
                    self.assertEqual(desk.bench.tried(lambda found: found.pin(ring)), ((), ()))


class TestFlat(unittest.TestCase):
    def test_what_creases_is_held_in_the_first_round(self):
        for net in random_flats(70)[:40] + creased_flats(16):
            word, value = creases(net)
            self.assertEqual(word == 'roof', all(pull != NONE for pull in pulled(net, ())))
            self.assertTrue(is_stress(net, pulled(net, ())))
            if word == 'roof' and len(net):
                self.assertEqual(len(rounds(net)), 1)
                self.assertEqual(held(net), net.rings)
                sites = sites_of(net, stress_of(net, value))
                for ring in net.rings:
                    # as many lands meet at a ring as cords
                    self.assertEqual(len(nearest(net, sites, place_of(net, ring))), len(cords_at(net, ring)))

    def test_mapped_flat_nets(self):
        turned = (((0, 1), (-1, 1)), ((1, 1), (0, 1)))
        for net in random_flats(70)[:20]:
            self.assertTrue(is_flat(mapped(net, turned)))
            self.assertFalse(is_flat(mapped(net, turned + turned[:1])))
            self.assertEqual(creases(mapped(net, turned))[0], creases(net)[0])


class TestTexts(unittest.TestCase):
    def test_pictures_tell_all(self):
        for net in worked_nets()[::3]:
            self.assertEqual(Net(net.text), net)
            self.assertEqual(between(net, picture(net), net.pegs[0], net.pegs[0]), NONE)


if __name__ == '__main__':
    unittest.main()
