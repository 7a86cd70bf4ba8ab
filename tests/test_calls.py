"""Section 2: calls by position and by name, arguments that are not changed, equal calls, plain kinds of values."""

import inspect
import unittest
from fractions import Fraction

from cordsatrest import (
    bench, broken, changes, desk, flat, hanging, journals, lots, near, nets, placements, pulls, roofs, rounds, seconds, settled,
    straight, strays, weighing,
)
from cordsatrest.bench import Bench
from cordsatrest.desk import Desk
from cordsatrest.errors import RestError
from cordsatrest.nets import Net
from cordsatrest.placements import mixture, moved, picture
from flats import CROSS, LOOSE, TENT, creased_flats, full_flats, random_flats
from support import NONE, ONE, bound_net, grid_net, hung_nets, nested, net_of, random_nets, told

INTERFACE = {
    nets: {'place_of': 'net name', 'weight_of': 'net name', 'square_of': 'net cord', 'cords_at': 'net name'},
    placements: {
        'picture': 'net', 'is_placement': 'net value', 'lets': 'net placement', 'score': 'net placement',
        'between': 'net placement one other', 'mixture': 'net one other share', 'moved': 'net moves step',
    },
    rounds: {
        'rounds': 'net', 'shows_rounds': 'net value', 'held': 'net', 'round_of': 'net ring', 'alike': 'net cord',
        'loosening': 'net', 'shows_loosening': 'net value', 'further': 'net',
    },
    pulls: {
        'left_over': 'net pulls weighed', 'pulled': 'net held', 'shows_pulled': 'net held value', 'least_rows': 'net held',
    },
    hanging: {'hangs': 'net', 'shows_hangs': 'net value', 'does_hang': 'net', 'lower': 'net'},
    lots: {
        'lot_rounds': 'net', 'shows_lot_rounds': 'net value', 'lots': 'net', 'lot_round': 'net one other',
        'does_stay': 'net ring', 'apart': 'net', 'shows_apart': 'net value', 'other_hanging': 'net',
    },
    strays: {
        'bend': 'net pulls rows', 'resistance': 'net pulls one other', 'stray': 'net pulls more lack one other',
        'score_above': 'net pulls more',
    },
    weighing: {'cord_rows': 'net', 'weight_rows': 'net', 'told_back': 'net direction'},
    straight: {
        'rising': 'net ring', 'shows_rising': 'net ring value', 'way_pulls': 'net way', 'heavy': 'net',
        'shows_heavy': 'net value',
    },
    settled: {'settled_places': 'net pulls', 'settled': 'net pulls', 'strain': 'net pulls rows'},
    broken: {'without': 'net cord', 'needed': 'net ring', 'lasting': 'net', 'spare': 'net', 'bare': 'net'},
    changes: {
        'cut_off': 'net', 'left_out': 'net ring', 'mapped': 'net table', 'shadow': 'net kept', 'joined': 'net other',
    },
    flat: {
        'is_flat': 'net', 'rim': 'net', 'lands': 'net', 'sides': 'net', 'lands_at': 'net spot', 'is_stress': 'net value',
        'stress_basis': 'net',
    },
    roofs: {
        'is_roof': 'net value', 'roof_of': 'net stress', 'stress_of': 'net roof', 'height': 'net roof spot',
        'bulges': 'net roof', 'creases': 'net', 'shows_creases': 'net value',
    },
    seconds: {'is_second': 'net value', 'second_of': 'net stress', 'stress_by': 'net second', 'roof_by': 'net second'},
    near: {'are_sites': 'net value', 'sites_of': 'net stress', 'stress_from': 'net sites', 'nearest': 'net sites spot'},
}
METHODS = {
    Bench: {
        '__init__': 'net', 'tie': 'one other', 'cut': 'cord', 'move': 'ring place', 'weigh': 'ring weight', 'pin': 'ring',
        'free': 'peg', 'undo': '', 'redo': '', 'trial': '', 'keep': '', 'tried': 'look keep', 'copy': '',
    },
    Desk: {'__init__': 'text', 'say': 'line'},
    Net: {'__init__': 'text'},
}


# what calls raise whatever value is handed in
ERRORS_OF_NETS = [('NotHung', None), ('NotFlat', None)]


def calls(net):
    """(function, further arguments) for each function of the interface, some of them several times."""
    drawn, ring, peg = picture(net), net.rings[-1], net.pegs[-1]
    moves = ((ONE,) * net.coords,) * len(net)
    deep = tuple(row + (NONE,) * (12 - net.coords) for row in drawn)
    found = [(nets.place_of, (ring,)), (nets.weight_of, (ring,)), (nets.square_of, (len(net.cords) - 1,))]
    found += [(nets.cords_at, (peg,)), (placements.picture, ()), (placements.is_placement, (deep,))]
    found += [(placements.is_placement, (moves,)), (placements.is_placement, ([drawn],)), (placements.lets, (deep,))]
    found += [(placements.score, (drawn,)), (placements.between, (deep, peg, ring))]
    found += [(placements.moved, (moves, (-1, 2))), (placements.mixture, (deep, drawn, (1, 3)))]
    found += [(rounds.rounds, ()), (rounds.held, ()), (rounds.further, ())]
    found += [(rounds.shows_rounds, (rounds.rounds(net),)), (rounds.shows_rounds, ([{'a': [1]}],))]
    found += [(rounds.round_of, (ring,)), (rounds.alike, (0,)), (rounds.loosening, ())]
    found += [(rounds.shows_loosening, (rounds.loosening(net),)), (rounds.shows_loosening, ([moves, {}],))]
    found += calls_of_pulls(net) + calls_of_hanging(net) + calls_of_lines(net) + calls_of_pictures(net)
    return found + calls_of_changes(net) + calls_of_flat(net)


def calls_of_pulls(net):
    """As above, for pulls and strays."""
    ring, peg, ones = net.rings[-1], net.pegs[-1], (ONE,) * len(net.cords)
    found = [(pulls.left_over, (ones, weighed)) for weighed in (False, True)]
    found += [(pulls.pulled, (net.rings[1:],)), (pulls.least_rows, (net.rings[2:],)), (pulls.least_rows, ((),))]
    found += [(pulls.shows_pulled, ((), value)) for value in (pulls.pulled(net, ()), ones, [{'a': [1]}])]
    borne = hanging.hangs(net)[1] if hanging.does_hang(net) else ones
    rows = tuple(row + (ONE,) for row in picture(net))
    found += [(strays.bend, (borne, rows)), (strays.resistance, (ones, ring, peg)), (strays.score_above, (borne, ones))]
    return found + [(strays.stray, (borne, ones, (1, 2), ring, peg))]


def calls_of_hanging(net):
    """As above, for hanging and lots."""
    ring, peg, told_hangs = net.rings[-1], net.pegs[-1], hanging.hangs(net)
    found = [(call, ()) for call in (hanging.hangs, hanging.does_hang, hanging.lower, lots.lot_rounds, lots.lots)]
    found += [(hanging.shows_hangs, (value,)) for value in (told_hangs, list(told_hangs), [{'a': [1]}])]
    found += [(lots.lot_round, (ring, peg)), (lots.does_stay, (ring,)), (lots.apart, ()), (lots.other_hanging, ())]
    found += [(call, ([{}],)) for call in (lots.shows_lot_rounds, lots.shows_apart)]
    if told_hangs[0] == 'pulls':
        found += [(lots.shows_lot_rounds, (lots.lot_rounds(net),)), (lots.shows_apart, (lots.apart(net),))]
    return found


def calls_of_lines(net):
    """As above, for nets on a line."""
    found = [(straight.heavy, ()), (straight.shows_heavy, (None,)), (straight.shows_heavy, ([{}],))]
    for ring in net.rings:
        way = answer_of(straight.rising, net, ring)
        found += [(straight.rising, (ring,)), (straight.shows_rising, (ring, way)), (straight.way_pulls, (way,))]
    return found + [(straight.shows_heavy, (answer_of(straight.heavy, net),))]


def calls_of_pictures(net):
    """As above, for weights told back, settled pictures and broken cords."""
    ones, rows = (ONE,) * len(net.cords), tuple(row + (ONE,) for row in picture(net))
    found = [(call, ()) for call in (weighing.cord_rows, weighing.weight_rows, broken.lasting, broken.spare, broken.bare)]
    found += [(weighing.told_back, ((NONE,) * (net.coords - 1) + ((-1, 1),),)), (broken.without, (0,))]
    found += [(broken.needed, (ring,)) for ring in net.rings]
    return found + [(settled.settled_places, (ones,)), (settled.settled, (ones,)), (settled.strain, (ones, rows))]


def calls_of_changes(net):
    """As above, for nets made of nets."""
    own = tuple(tuple(ONE if at == other else NONE for other in range(net.coords)) for at in range(net.coords))
    found = [(changes.cut_off, ()), (changes.mapped, (own[::-1],)), (changes.mapped, (own + own[:1] * (3 - len(own)),))]
    found += [(changes.mapped, (tuple(tuple((999, 7) if part == ONE else NONE for part in row) for row in own),))]
    found += [(changes.shadow, (kept,)) for kept in ((0,), (net.coords - 1,), tuple(range(net.coords)))]
    return found + [(changes.left_out, (ring,)) for ring in net.rings] + [(changes.joined, (net,))]


def calls_of_flat(net):
    """As above, for flat nets: with what belongs to the net, if it is flat."""
    calls_alone = (flat.is_flat, flat.rim, flat.lands, flat.sides, flat.stress_basis, roofs.creases)
    stress, roof, second, sites, spot = (ONE,), (), (NONE,), (), (NONE, NONE)
    if flat.is_flat(net):
        pulled = pulls.pulled(net, ())
        stress, roof, second = pulled, roofs.roof_of(net, pulled), seconds.second_of(net, pulled)
        sites, spot = answer_of(near.sites_of, net, pulled), nets.place_of(net, net.rings[0])
    found = [(call, ()) for call in calls_alone] + [(flat.lands_at, (spot,)), (flat.is_stress, (stress,))]
    found += [(flat.is_stress, ([{}],)), (roofs.roof_of, (stress,)), (seconds.second_of, (stress,)), (near.sites_of, (stress,))]
    found += [(call, (roof,)) for call in (roofs.is_roof, roofs.stress_of, roofs.bulges)] + [(roofs.height, (roof, spot))]
    found += [(roofs.shows_creases, (value,)) for value in (answer_of(roofs.creases, net), [{}])]
    found += [(call, (second,)) for call in (seconds.is_second, seconds.stress_by, seconds.roof_by)]
    return found + [(near.are_sites, (sites,)), (near.stress_from, (sites,)), (near.nearest, (sites, spot))]


def answer_of(call, *args, **named):
    """What a call tells, or the error that it raises with its value; a net by its text."""
    try:
        answer = call(*args, **named)
    except RestError as error:
        return type(error).__name__, error.value
    return ('net', answer.text) if type(answer) is Net else answer


def some_nets():
    """Nets with a ring and a cord, some that hang, six of them at their bounds."""
    plain = [net for net in random_nets(12) + hung_nets(12) if net.cords]
    plain += [TENT, LOOSE, CROSS] + random_flats(8) + creased_flats(6) + full_flats()
    return plain + [make(coords) for coords in (1, 2, 3) for make in (bound_net, grid_net)]


def is_plain(value):
    """Whether a told value is made of tuples, strings, integers, bools and None themselves."""
    if type(value) is tuple:
        return all([is_plain(part) for part in value])
    return value is None or type(value) in (str, int, bool)


def pairs_in(value):
    """All pairs of integers in a told value."""
    if not isinstance(value, tuple):
        return []
    if len(value) == 2 and isinstance(value[0], int):
        return [value]
    return [pair for part in value for pair in pairs_in(part)]


class TestCalls(unittest.TestCase):
    def test_all_functions_are_called(self):
        called = {call.__name__ for call, _ in calls(grid_net(2))}
        self.assertEqual(called, {name for names in INTERFACE.values() for name in names})

    def test_names_of_parameters(self):
        for module, names in INTERFACE.items():
            for name, words in names.items():
                with self.subTest(name):
                    self.assertEqual(list(inspect.signature(getattr(module, name)).parameters), words.split())
                    self.assertEqual(getattr(module, name).__module__, module.__name__)
        for name, words in (('journal', 'bench'), ('read_journal', 'text')):
            self.assertEqual(list(inspect.signature(getattr(journals, name)).parameters), words.split())
            self.assertEqual(getattr(journals, name).__module__, journals.__name__)

    def test_methods(self):
        for kind, names in METHODS.items():
            for name, words in names.items():
                self.assertEqual(list(inspect.signature(vars(kind)[name]).parameters)[1:], words.split())
        keep = inspect.signature(Bench.tried).parameters['keep']
        self.assertEqual((keep.kind, keep.default), (keep.KEYWORD_ONLY, False))
        self.assertEqual((Bench.__module__, Desk.__module__, Net.__module__), (bench.__name__, desk.__name__, nets.__name__))

    def test_attributes_are_set_when_objects_are_created(self):
        net = grid_net(2)
        self.assertLessEqual({'text', 'coords', 'pegs', 'rings', 'cords'}, set(vars(net)))
        self.assertLessEqual({'net', 'first', 'done'}, set(vars(Bench(net))))
        self.assertIn('bench', vars(Desk('bench\n' + net.text)))

    def test_by_position_and_by_name(self):
        for net in some_nets():
            for call, args in calls(net):
                with self.subTest(net=net.text, call=call):
                    words = INTERFACE[inspect.getmodule(call)][call.__name__].split()
                    named = dict(zip(words, (net,) + args))
                    answer = answer_of(call, net, *args)
                    self.assertEqual(answer_of(call, **named), answer)
                    self.assertEqual(answer_of(call, **dict(reversed(list(named.items())))), answer)
                    self.assertEqual(answer_of(call, net, **dict(list(named.items())[1:])), answer)

    def test_equal_calls_tell_the_same(self):
        for net in some_nets():
            for call, args in calls(net):
                with self.subTest(net=net.text, call=call):
                    answer = answer_of(call, net, *args)
                    self.assertTrue(is_plain(answer))
                    self.assertEqual(repr(answer_of(call, net, *args)), repr(answer))
                    self.assertEqual(repr(answer_of(call, Net(net.text), *args)), repr(answer))

    def test_arguments_are_not_changed(self):
        for net in some_nets():
            for call, args in calls(net):
                with self.subTest(net=net.text, call=call):
                    ahead = repr((vars(net), args))
                    answer_of(call, net, *args)
                    self.assertEqual(repr((vars(net), args)), ahead)

    def test_a_refused_call_changes_nothing(self):
        for net in (grid_net(2), hung_nets(4)[-1], grid_net(1)):
            ahead = repr(vars(net))
            for call, args in calls(net):
                words = INTERFACE[inspect.getmodule(call)][call.__name__].split()[1:]
                for at, word in enumerate(words):
                    wrong = args[:at] + (nested(30),) + args[at + 1:]
                    # this one is a Net, as net is
                    if word == 'other' and call is changes.joined:
                        continue
                    if word != 'value' or answer_of(call, net, *args) in ERRORS_OF_NETS + [('NoLine', net.coords)]:
                        self.assertRaises(RestError, call, net, *wrong)
                    else:
                        self.assertIs(call(net, *wrong), False)
                    self.assertEqual(repr(vars(net)), ahead)

    def test_nets_keep_plain_values(self):
        for net in some_nets():
            self.assertTrue(is_plain((net.text, net.coords, net.pegs, net.rings, net.cords)))
            self.assertIs(type(len(net)), int)

    def test_told_values_are_handed_in_again(self):
        for net in some_nets():
            answer = rounds.loosening(net)
            if answer is not None:
                rows = moved(net, *answer)
                for _ in range(3):
                    rows = mixture(net, rows, picture(net), (1, 3))
                self.assertIs(placements.is_placement(net, rows), True)
                self.assertEqual(moved(net, answer[0], NONE), picture(net))

    def test_fractions_are_told_in_least_terms(self):
        net = net_of('net 1', 'peg a 0', 'ring r 4 1/2', 'cord a r')
        rows = (((4, 3),),)
        self.assertEqual(placements.score(net, rows), (2, 3))
        self.assertEqual(placements.lets(net, rows), ((128, 9),))
        self.assertEqual(moved(net, (((2, 3),),), (3, 2)), (((5, 1),),))
        self.assertEqual(moved(net, (((-2, 3),),), (6, 1)), ((NONE,),))
        for net in some_nets():
            for call, args in calls(net):
                answer = answer_of(call, net, *args)
                # these tell numbers, no fractions
                if call not in (nets.cords_at, broken.needed, broken.spare, flat.sides, flat.lands_at, near.nearest):
                    for top, bottom in pairs_in(answer):
                        self.assertEqual((top, bottom), told(Fraction(top, bottom)))


if __name__ == '__main__':
    unittest.main()
