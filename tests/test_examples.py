"""The document's examples, as they stand there, and those of README.md."""

import doctest
import os
import unittest

README = os.path.join(os.path.dirname(os.path.dirname(os.path.abspath(__file__))), 'README.md')

NETS = r"""
>>> from cordsatrest.nets import cords_at, Net, place_of, square_of, weight_of
>>> net = Net('net 2\npeg a 0 0\npeg b 4 0\nring r 2 0 0 -1\nring s 2 -2 1/2 0\ncord a r\ncord r b\ncord r s')
>>> [net.coords, net.pegs, net.rings, net.cords, len(net)]
[2, ('a', 'b'), ('r', 's'), (('a', 'r'), ('r', 'b'), ('r', 's')), 2]
>>> [place_of(net, 's'), weight_of(net, 's'), weight_of(net, 'a'), square_of(net, 2), cords_at(net, 'r')]
[((2, 1), (-2, 1)), ((1, 2), (0, 1)), ((0, 1), (0, 1)), (4, 1), (0, 1, 2)]
>>> one = Net('net 1\npeg a 0\nring r 3/2 1')
>>> [one.cords, place_of(one, 'r'), weight_of(one, 'r'), one == Net('net 1\npeg a 0\nring r 3/2 1'), one == one.text]
[(), ((3, 2),), ((1, 1),), True, False]
"""

PLACEMENTS = r"""
>>> from cordsatrest.nets import Net
>>> from cordsatrest.placements import between, is_placement, lets, mixture, moved, picture, score
>>> net = Net('net 2\npeg a 0 0\npeg b 4 0\nring r 2 0 0 -1\nring s 2 -2 1/2 0\ncord a r\ncord r b\ncord r s')
>>> drawn, other = picture(net), (((2, 1), (0, 1)), ((3, 1), (-1, 1)))
>>> [drawn, lets(net, drawn), lets(net, other), score(net, drawn), score(net, other)]
[(((2, 1), (0, 1)), ((2, 1), (-2, 1))), ((0, 1), (0, 1), (0, 1)), ((0, 1), (0, 1), (2, 1)), (1, 1), (3, 2)]
>>> half = mixture(net, drawn, other, (1, 2))
>>> [half[1], lets(net, half)[2], score(net, half), between(net, other, 's', 'b'), between(net, drawn, 'a', 'b')]
[((5, 2), (-3, 2)), (3, 2), (5, 4), (2, 1), (16, 1)]
>>> moves = (((0, 1), (0, 1)), ((1, 1), (1, 1)))
>>> [moved(net, moves, (1, 1)) == other, is_placement(net, moved(net, moves, (-1, 1))), is_placement(net, (((2, 1), (0, 1)),))]
[True, False, False]
>>> deep = (((2, 1), (0, 1), (0, 1)), ((2, 1), (-1, 1), (1, 1)))
>>> [lets(net, deep)[2], score(net, deep), mixture(net, drawn, deep, (1, 2))[1]]
[(2, 1), (1, 1), ((2, 1), (-3, 2), (1, 2))]
"""

ROUNDS = r"""
>>> from cordsatrest.nets import Net
>>> from cordsatrest.rounds import alike, held, round_of, rounds, shows_rounds
>>> rows = ('net 2', 'peg a 0 0', 'peg b 4 0', 'peg c 2 3', 'ring m 2 0 0 0', 'ring k 2 1 0 0')
>>> net = Net('\n'.join(rows + ('cord a m', 'cord b m', 'cord c k', 'cord k m')))
>>> own = ((((1, 1), (1, 1), (0, 1), (0, 1)), ('m',)), (((0, 1), (0, 1), (1, 1), (2, 1)), ('k',)))
>>> [held(net), round_of(net, 'm'), round_of(net, 'k'), alike(net, 3), shows_rounds(net, own)]
[('m', 'k'), 1, 2, True, True]
>>> [rings for pulls, rings in rounds(net)]
[('m',), ('k',)]
"""

LOOSENING = r"""
>>> from cordsatrest.nets import Net
>>> from cordsatrest.rounds import held, loosening, shows_loosening
>>> rows = ('net 2', 'peg a 0 0', 'peg b 4 0', 'ring m 2 0 0 0', 'ring k 2 1 0 0', 'cord a m', 'cord b m', 'cord k m')
>>> net = Net('\n'.join(rows))
>>> own = ((((0, 1), (0, 1)), ((1, 1), (-2, 1))), (1, 4))
>>> [held(net), shows_loosening(net, own), shows_loosening(net, (own[0], (1, 1))), shows_loosening(net, loosening(net))]
[('m',), True, False, True]
"""

PULLS = r"""
>>> from cordsatrest.nets import Net
>>> from cordsatrest.pulls import least_rows, left_over, pulled, shows_pulled
>>> rows = ['net 2', 'peg a 0 0', 'peg b 4 0', 'peg c 2 4', 'ring r 2 0 0 0', 'ring s 2 2 0 -1', 'cord a r', 'cord r b', 'cord r s', 'cord s c']
>>> line, none, one = Net('\n'.join(rows)), (0, 1), (1, 1)
>>> left_over(line, (one, one, one, one), False)
(((0, 1), (2, 1)), ((0, 1), (0, 1)))
>>> left_over(line, (one, one, none, (1, 2)), True)
(((0, 1), (0, 1)), ((0, 1), (0, 1)))
>>> [shows_pulled(line, (), value) for value in ((one, one, none, none), ((2, 3), (2, 3), none, none), (one, (2, 1), none, none), (none, none, none, none))]
[True, True, False, False]
>>> [pulled(line, ('r', 's')), least_rows(line, ()), least_rows(line, ('r',))]
[((0, 1), (0, 1), (0, 1), (0, 1)), (((1, 1), (1, 1), (0, 1), (0, 1)),), (((0, 1), (0, 1), (1, 1), (1, 1)),)]
>>> star = Net('net 2\npeg e 2 0\npeg w -1 0\npeg n 0 1\npeg d -2 -1\nring r 0 0 0 0\ncord e r\ncord r w\ncord n r\ncord d r')
>>> [[pull[0] for pull in row] for row in least_rows(star, ())]
[[1, 0, 1, 1], [1, 2, 0, 0]]
>>> [shows_pulled(star, (), pulls) for pulls in (((2, 1), (2, 1), one, one), (one, none, one, one))]
[True, False]
"""

HANGING = r"""
>>> from cordsatrest.hanging import does_hang, hangs, lower, shows_hangs
>>> from cordsatrest.nets import Net
>>> rows = ('net 2', 'peg a 0 3', 'peg b 4 3', 'ring r 1 1 0 -2', 'ring s 3 1 0 -2', 'cord a r', 'cord r s', 'cord s b')
>>> net = Net('\n'.join(rows))
>>> [hangs(net), lower(net), shows_hangs(net, ('pulls', ((1, 1), (1, 1), (1, 1))))]
[('pulls', ((1, 1), (1, 2), (1, 1))), None, False]
>>> tilted = Net(net.text.replace('ring s 3 1 0 -2', 'ring s 3 1 0 -1'))
>>> own = ('lower', (((-5, 1), (-2, 1)), ((-6, 1), (7, 2))), (1, 25))
>>> [does_hang(tilted), hangs(tilted)[0], shows_hangs(tilted, own), shows_hangs(tilted, own[:2] + ((1, 1),))]
[False, 'lower', True, False]
"""

LOTS = r"""
>>> from cordsatrest.lots import apart, does_stay, lot_round, lot_rounds, lots, shows_apart
>>> from cordsatrest.nets import Net
>>> rows = ('net 2', 'peg p 0 5', 'ring k 0 3 0 -1', 'ring u 1 0 -1 0', 'ring v 3 0 1 0', 'cord p k', 'cord u v', 'cord k u')
>>> net = Net('\n'.join(rows))
>>> [lots(net), lot_round(net, 'k', 'p'), lot_round(net, 'v', 'u'), lot_round(net, 'u', 'k'), does_stay(net, 'k'), does_stay(net, 'u')]
[(('p', 'k'), ('u', 'v')), 1, 1, None, True, False]
>>> lot_rounds(net)
((((1, 2), (1, 2), (0, 1)), (('p', 'k'), ('u', 'v'))),)
>>> own = (((0, 1), (0, 1)), ((0, 1), (1, 1)), ((0, 1), (1, 1)))
>>> [shows_apart(net, (own, (1, 1))), shows_apart(net, (own, (9, 1))), shows_apart(net, ((own[0], own[1], own[0]), (1, 1)))]
[True, False, False]
"""

STRAYS = r"""
>>> from cordsatrest.nets import Net
>>> from cordsatrest.strays import bend, resistance, score_above, stray
>>> line = Net('net 1\npeg a 0\npeg b 3\nring r 1 0\ncord a r\ncord r b')
>>> pulls, more = ((2, 1), (1, 1)), ((1, 1), (1, 1))
>>> [resistance(line, pulls, 'r', 'a'), resistance(line, pulls, 'b', 'a'), stray(line, pulls, more, (0, 1), 'r', 'b'), bend(line, pulls, (((1, 1), (1, 1)),))]
[(1, 3), (0, 1), (1, 1), (3, 1)]
>>> load = Net('net 1\npeg top 0\nring low -1 -1\ncord top low')
>>> [stray(load, ((1, 1),), ((0, 1),), (1, 2), 'low', 'top'), score_above(load, ((1, 1),), ((3, 1),)), bend(load, ((1, 1),), (((-1, 2), (1, 1)),))]
[(1, 1), (3, 2), (5, 4)]
>>> free = Net('net 1\npeg far 9\nring r 0 -1\nring s 1 1\ncord r s')
>>> [resistance(free, ((1, 1),), 'r', 's'), resistance(free, ((1, 1),), 'r', 'far'), resistance(line, ((2, 1), (0, 1)), 'r', 'b'), resistance(line, ((0, 1), (0, 1)), 'r', 'r')]
[(1, 1), None, (1, 2), (0, 1)]
"""

WEIGHING = r"""
>>> from cordsatrest.nets import Net
>>> from cordsatrest.weighing import cord_rows, told_back, weight_rows
>>> chain = Net('net 2\npeg a 0 0\npeg b 6 -1\nring r 1 -2 0 0\nring s 3 -3 0 0\ncord a r\ncord r s\ncord s b')
>>> cord_rows(chain)
((((1, 1), (-2, 1)), ((0, 1), (0, 1))), (((-2, 1), (1, 1)), ((2, 1), (-1, 1))), (((0, 1), (0, 1)), ((-3, 1), (-2, 1))))
>>> [weight_rows(chain)[0], len(weight_rows(chain))]
[(((-2, 1), (1, 1)), ((2, 1), (-1, 1))), 3]
>>> [told_back(chain, ((0, 1), (-1, 1))), told_back(chain, ((0, 1), (2, 1))), told_back(chain, ((1, 1), (-1, 1)))]
[(((9, 1), (7, 1)),), (), ()]
>>> fork = Net('net 2\npeg a -2 1\npeg b 2 1\npeg c -1 1\nring r 0 0 0 -1\ncord a r\ncord b r\ncord c r')
>>> [weight_rows(fork), told_back(fork, ((0, 1), (-1, 3)))]
[((((-2, 1), (-1, 1)),), (((2, 1), (-1, 1)),)), (((1, 1),),)]
"""

STRAIGHT = r"""
>>> from cordsatrest.nets import Net
>>> from cordsatrest.straight import heavy, rising, shows_heavy, way_pulls
>>> line = Net('net 1\npeg a 0\npeg b 5\nring r 2 0\nring s 3 0\nring t 1 0\nring u 6 0\ncord a t\ncord t s\ncord s b\ncord r s\ncord u b')
>>> [rising(line, 't'), rising(line, 's'), rising(line, 'r'), rising(line, 'u'), way_pulls(line, ('a', 't', 's', 'b'))]
[('a', 't', 's', 'b'), ('a', 't', 's', 'b'), None, None, ((1, 1), (1, 2), (1, 2), (0, 1), (0, 1))]
>>> [heavy(line), heavy(Net('net 1\npeg a 0\nring r -2 -1\ncord a r')), heavy(Net('net 1\npeg a 0\nring r 2 -1\ncord a r'))]
[None, None, ('down', ('r',))]
>>> pile = Net('net 1\npeg a 0\nring r 1 2\nring s 2 -3\ncord a r\ncord r s')
>>> [shows_heavy(pile, ('down', rings)) for rings in (('s',), ('r', 's'), ('r',))]
[True, True, False]
"""

SETTLED = r"""
>>> from cordsatrest.nets import Net
>>> from cordsatrest.settled import settled, settled_places, strain
>>> web = Net('net 2\npeg a 0 0\npeg b 4 0\npeg c 0 4\nring r 2 1 0 -1\ncord a r\ncord b r\ncord c r')
>>> pulls = ((2, 1), (1, 1), (1, 1))
>>> [settled_places(web, pulls), settled(web, pulls).text.split('\n')[4]]
[(((1, 1), (3, 4)),), 'ring r 1 3/4 0 -1']
>>> [strain(web, pulls, settled_places(web, pulls)), strain(web, pulls, (((2, 1), (1, 1)),))]
[(103, 8), (15, 1)]
>>> row = Net('net 1\npeg a 0\npeg b 6\nring r 1 0\nring s 2 0\ncord a r\ncord r s\ncord s b')
>>> [settled_places(row, ((1, 1), (1, 1), (1, 1))), settled(row, ((2, 1), (1, 1), (1, 1))).text.split('\n')[3:5]]
[(((2, 1),), ((4, 1),)), ['ring r 6/5 0', 'ring s 18/5 0']]
"""

BROKEN = r"""
>>> from cordsatrest.broken import bare, lasting, needed, spare, without
>>> from cordsatrest.nets import Net
>>> from cordsatrest.rounds import held
>>> rows = ['net 2', 'peg a 0 0', 'peg b 4 0', 'peg c 2 4', 'ring m 2 0 0 0', 'ring k 2 2 0 0']
>>> net = Net('\n'.join(rows + ['cord a m', 'cord b m', 'cord c k', 'cord k m', 'cord a k']))
>>> [held(net), needed(net, 'm'), needed(net, 'k'), spare(net), lasting(net), held(without(net, 2)), bare(net) == without(net, 4)]
[('m', 'k'), (0, 1), (0, 1, 2, 3), (4,), (), ('m',), True]
>>> star = Net('net 2\npeg e 1 0\npeg w -1 0\npeg n 0 1\npeg s 0 -1\nring r 0 0 0 0\ncord e r\ncord w r\ncord n r\ncord s r')
>>> [needed(star, 'r'), lasting(star), spare(star), bare(star).cords]
[(), ('r',), (0, 1, 2, 3), (('n', 'r'), ('s', 'r'))]
"""

CHANGES = r"""
>>> from cordsatrest.changes import cut_off, joined, left_out, mapped, shadow
>>> from cordsatrest.nets import Net
>>> from cordsatrest.rounds import held
>>> net = Net('net 2\npeg a 0 0\npeg b 4 0\nring m 2 0 0 -1\nring s 2 -2 0 -1\ncord a m\ncord b m\ncord m s')
>>> cut_off(net).text.split('\n')
['net 2', 'peg a 0 0', 'peg b 4 0', 'peg m 2 0', 'ring s 2 -2 0 -1', 'cord m s']
>>> line = Net('net 2\npeg a 0 0\npeg c 0 6\nring r 0 2 0 0\nring t 0 3 1 0\ncord t c\ncord a r\ncord r t')
>>> left_out(line, 'r').text.split('\n')
['net 2', 'peg a 0 0', 'peg c 0 6', 'ring t 0 3 1 0', 'cord t c', 'cord a t']
>>> flat = Net('net 1\npeg a 0\npeg b 4\nring r 1 1/2\ncord a r\ncord r b')
>>> wide = mapped(flat, (((1, 1),), ((-2, 1),)))
>>> [wide.text.split('\n')[2:4], shadow(wide, (0,)) == flat, shadow(wide, (1,)).text.split('\n')[1:4]]
[['peg b 4 -8', 'ring r 1 -2 1/2 -1'], True, ['peg a 0', 'peg b -8', 'ring r -2 -1']]
>>> one = Net('net 1\npeg a 0\npeg b 4\nring r 1 1\ncord a r')
>>> other = Net('net 1\npeg a 0\npeg b 4\nring r 1 -3\ncord r b')
>>> [held(one), held(other), joined(one, other).text.split('\n')[3:], held(joined(one, other))]
[(), (), ['ring r 1 -2', 'cord a r', 'cord r b'], ('r',)]
"""

FLAT = r"""
>>> from cordsatrest.flat import is_flat, is_stress, lands, lands_at, rim, sides, stress_basis
>>> from cordsatrest.nets import Net
>>> net = Net('net 2\npeg a 0 0\npeg b 4 0\npeg c 0 4\nring m 1 1 0 0\ncord a m\ncord b m\ncord c m')
>>> [is_flat(net), rim(net), lands(net)]
[True, ('a', 'b', 'c'), (('a', 'b', 'm'), ('a', 'm', 'c'), ('b', 'c', 'm'))]
>>> [sides(net), lands_at(net, ((1, 1), (1, 1))), lands_at(net, ((2, 1), (1, 3))), lands_at(net, ((2, 1), (2, 1))), lands_at(net, ((4, 1), (4, 1)))]
[((1, 0), (0, 2), (2, 1)), (0, 1, 2), (0,), (2,), ()]
>>> [stress_basis(net), is_stress(net, ((2, 1), (1, 1), (1, 1))), is_stress(net, ((-2, 1), (-1, 1), (-1, 1))), is_stress(net, ((1, 1), (1, 1), (1, 1)))]
[(((1, 1), (1, 2), (1, 2)),), True, True, False]
>>> loose = Net('net 2\npeg a 0 0\npeg b 4 0\npeg c 0 4\nring m 1 1 0 0\nring n 1 2 0 0\ncord a m\ncord b m\ncord m n')
>>> [lands(loose), sides(loose), stress_basis(loose)]
[(('a', 'b', 'm'), ('a', 'm', 'n', 'm', 'b', 'c')), ((1, 0), (0, 1), (1, 1)), ()]
"""

ROOFS = r"""
>>> from cordsatrest.nets import Net
>>> from cordsatrest.roofs import bulges, creases, height, is_roof, roof_of, shows_creases, stress_of
>>> net = Net('net 2\npeg a 0 0\npeg b 4 0\npeg c 0 4\nring m 1 1 0 0\ncord a m\ncord b m\ncord c m')
>>> tent = roof_of(net, ((2, 1), (1, 1), (1, 1)))
>>> tent
(((0, 1), (0, 1), (0, 1)), ((2, 1), (-2, 1), (0, 1)), ((-1, 1), (-3, 1), (4, 1)))
>>> [stress_of(net, tent), height(net, tent, ((1, 1), (1, 1))), height(net, tent, ((0, 1), (4, 1))), height(net, tent, ((2, 1), (2, 1)))]
[((2, 1), (1, 1), (1, 1)), (0, 1), (-8, 1), (-4, 1)]
>>> [bulges(net, tent), bulges(net, roof_of(net, ((-2, 1), (-1, 1), (-1, 1)))), is_roof(net, tent[::-1])]
[('bulges',), ('dents', 0), False]
>>> [shows_creases(net, ('roof', tent)), shows_creases(net, ('slack', (((0, 1), (0, 1)),)))]
[True, False]
>>> corner = Net('net 2\npeg a 0 0\npeg b 4 0\npeg c 0 4\nring m 1 1 0 0\ncord a m\ncord b m')
>>> [creases(corner)[0], shows_creases(corner, ('slack', (((0, 1), (-1, 1)),))), shows_creases(corner, ('slack', (((1, 1), (-1, 1)),)))]
['slack', True, True]
"""

SECONDS_AND_SITES = r"""
>>> from cordsatrest.near import are_sites, nearest, sites_of, stress_from
>>> from cordsatrest.nets import Net
>>> from cordsatrest.seconds import is_second, roof_by, second_of, stress_by
>>> net = Net('net 2\npeg a 0 0\npeg b 4 0\npeg c 0 4\nring m 1 1 0 0\ncord a m\ncord b m\ncord c m')
>>> stress = ((2, 1), (1, 1), (1, 1))
>>> [second_of(net, stress), stress_by(net, second_of(net, stress)), is_second(net, (((0, 1), (0, 1)), ((0, 1), (2, 1)), ((1, 1), (3, 1))))]
[(((0, 1), (0, 1)), ((-2, 1), (2, 1)), ((1, 1), (3, 1))), ((2, 1), (1, 1), (1, 1)), False]
>>> roof_by(net, (((1, 1), (0, 1)), ((-1, 1), (2, 1)), ((2, 1), (3, 1))))
(((-1, 1), (0, 1), (0, 1)), ((1, 1), (-2, 1), (0, 1)), ((-2, 1), (-3, 1), (4, 1)))
>>> told = sites_of(net, stress)
>>> told
(((0, 1), (0, 1), (0, 1)), ((-1, 1), (1, 1), (2, 1)), ((1, 2), (3, 2), (-3, 2)))
>>> [are_sites(net, told), stress_from(net, told), nearest(net, told, ((1, 1), (1, 1))), nearest(net, told, ((2, 1), (2, 1)))]
[True, ((2, 1), (1, 1), (1, 1)), (0, 1, 2), (2,)]
>>> are_sites(net, (((0, 1), (0, 1), (0, 1)), ((-1, 1), (1, 1), (2, 1)), ((1, 2), (3, 2), (0, 1))))
False
"""

BENCH = r"""
>>> from cordsatrest.bench import Bench
>>> from cordsatrest.nets import Net
>>> rows = ['net 2', 'peg a 0 0', 'peg b 4 0', 'peg c 2 4', 'ring m 2 0 0 0', 'ring k 2 2 0 0', 'cord a m', 'cord c k', 'cord k m']
>>> bench = Bench(Net('\n'.join(rows)))
>>> [bench.tie('b', 'm'), bench.cut(1), bench.undo(), bench.move('k', ((2, 1), (1, 1))), bench.move('k', ((3, 1), (1, 1))), bench.done]
[(('m', 'k'), ()), ((), ('k',)), None, ((), ()), ((), ('k',)), 3]
>>> [bench.pin('k'), bench.net.pegs, bench.net.cords, bench.undo(), bench.undo(), bench.free('c'), bench.net.rings]
[(('k',), ()), ('a', 'b', 'c', 'k'), (('a', 'm'), ('k', 'm'), ('b', 'm')), None, None, ((), ('c', 'k')), ('m', 'k', 'c')]
>>> [bench.tried(lambda held: held.weigh('m', ((0, 1), (-3, 1)))), bench.done, bench.copy() == bench, bench.undo(), bench.redo(), bench.done]
[((), ()), 3, True, None, None, 3]
"""

JOURNALS = r"""
>>> from cordsatrest.desk import Desk
>>> from cordsatrest.journals import journal, read_journal
>>> rows = ['bench', 'net 2', 'peg a 0 0', 'peg b 4 0', 'ring m 2 0 0 -1', 'ring s 2 -2 0 -1', 'cord a m', 'cord m s', 'tie b m']
>>> desk = Desk('\n'.join(rows))
>>> [desk.say(words) for words in ('held', 'round m', 'round s', 'hangs', 'lots', 'stays s', 'needed m', 'spare')]
['m', '1', '-', 'yes', 'a b m s', 'yes', '0 2', '1']
>>> [desk.say(words) for words in ('weigh s 0 1', 'hangs', 'cut 0', 'undo', 'undo', 'pin s', 'net')]
['come -; gone -', 'no', 'come -; gone m', 'ok', 'ok', 'come s; gone -', 'net 2; peg a 0 0; peg b 4 0; peg s 2 -2; ring m 2 0 0 -1; cord a m; cord m s; cord b m']
>>> journal(desk.bench).split('\n')[8:]
['tie b m', 'pin s']
>>> [read_journal(journal(desk.bench)) == desk.bench, read_journal('\n'.join(rows + ['move s 1 1/2'])).net.text.split('\n')[4]]
[True, 'ring s 1 1/2 0 -1']
"""


class TestExamples(unittest.TestCase):
    def check(self, name, text):
        example = doctest.DocTestParser().get_doctest(text, {}, name, None, 0)
        wrong = []
        done = doctest.DocTestRunner().run(example, out=wrong.append)
        self.assertGreater(done.attempted, 0)
        self.assertEqual(done.failed, 0, ''.join(wrong))

    def test_nets(self):
        self.check('nets', NETS)

    def test_placements(self):
        self.check('placements', PLACEMENTS)

    def test_rounds(self):
        self.check('rounds', ROUNDS)

    def test_loosening(self):
        self.check('loosening', LOOSENING)

    def test_pulls(self):
        self.check('pulls', PULLS)

    def test_hanging(self):
        self.check('hanging', HANGING)

    def test_lots(self):
        self.check('lots', LOTS)

    def test_strays(self):
        self.check('strays', STRAYS)

    def test_weighing(self):
        self.check('weighing', WEIGHING)

    def test_straight(self):
        self.check('straight', STRAIGHT)

    def test_settled(self):
        self.check('settled', SETTLED)

    def test_broken(self):
        self.check('broken', BROKEN)

    def test_changes(self):
        self.check('changes', CHANGES)

    def test_flat(self):
        self.check('flat', FLAT)

    def test_roofs(self):
        self.check('roofs', ROOFS)

    def test_seconds_and_sites(self):
        self.check('seconds_and_sites', SECONDS_AND_SITES)

    def test_bench(self):
        self.check('bench', BENCH)

    def test_journals(self):
        self.check('journals', JOURNALS)

    def test_readme(self):
        with open(README, encoding='utf-8') as file:
            self.check('readme', file.read().replace('```', ''))


if __name__ == '__main__':
    unittest.main()
