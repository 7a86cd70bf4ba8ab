"""The document's examples, as they stand there, and those of README.md."""

import doctest
import os
import unittest

README = os.path.join(os.path.dirname(os.path.dirname(os.path.abspath(__file__))), 'README.md')

NETS = r"""
>>> from cordsatrest.nets import cords_at, Net, place_of, square_of, weight_of
>>> net = Net('net 2\npeg a 0 0\npeg b 4 0\nring r 2 0 0 -1\nring s 2 -2 1/2 0\ncord a r\ncord r b\ncord r s')
>>> [net.coords, net.pegs, net.rings, net.cords, len(net)]
[2, ('a', 'b'), ('r', 's'), (('a', 'r'), ('r', 'b'), ('r', 's')), 2]
>>> [place_of(net, 's'), weight_of(net, 's'), weight_of(net, 'a'), square_of(net, 2), cords_at(net, 'r')]
[((2, 1), (-2, 1)), ((1, 2), (0, 1)), ((0, 1), (0, 1)), (4, 1), (0, 1, 2)]
>>> one = Net('net 1\npeg a 0\nring r 3/2 1')
>>> [one.cords, place_of(one, 'r'), weight_of(one, 'r'), one == Net('net 1\npeg a 0\nring r 3/2 1'), one == one.text]
[(), ((3, 2),), ((1, 1),), True, False]
"""

PLACEMENTS = r"""
>>> from cordsatrest.nets import Net
>>> from cordsatrest.placements import between, is_placement, lets, mixture, moved, picture, score
>>> net = Net('net 2\npeg a 0 0\npeg b 4 0\nring r 2 0 0 -1\nring s 2 -2 1/2 0\ncord a r\ncord r b\ncord r s')
>>> drawn, other = picture(net), (((2, 1), (0, 1)), ((3, 1), (-1, 1)))
>>> [drawn, lets(net, drawn), lets(net, other), score(net, drawn), score(net, other)]
[(((2, 1), (0, 1)), ((2, 1), (-2, 1))), ((0, 1), (0, 1), (0, 1)), ((0, 1), (0, 1), (2, 1)), (1, 1), (3, 2)]
>>> half = mixture(net, drawn, other, (1, 2))
>>> [half[1], lets(net, half)[2], score(net, half), between(net, other, 's', 'b'), between(net, drawn, 'a', 'b')]
[((5, 2), (-3, 2)), (3, 2), (5, 4), (2, 1), (16, 1)]
>>> moves = (((0, 1), (0, 1)), ((1, 1), (1, 1)))
>>> [moved(net, moves, (1, 1)) == other, is_placement(net, moved(net, moves, (-1, 1))), is_placement(net, (((2, 1), (0, 1)),))]
[True, False, False]
>>> deep = (((2, 1), (0, 1), (0, 1)), ((2, 1), (-1, 1), (1, 1)))
>>> [lets(net, deep)[2], score(net, deep), mixture(net, drawn, deep, (1, 2))[1]]
[(2, 1), (1, 1), ((2, 1), (-3, 2), (1, 2))]
"""

ROUNDS = r"""
>>> from cordsatrest.nets import Net
>>> from cordsatrest.rounds import alike, held, round_of, rounds, shows_rounds
>>> rows = ('net 2', 'peg a 0 0', 'peg b 4 0', 'peg c 2 3', 'ring m 2 0 0 0', 'ring k 2 1 0 0')
>>> net = Net('\n'.join(rows + ('cord a m', 'cord b m', 'cord c k', 'cord k m')))
>>> own = ((((1, 1), (1, 1), (0, 1), (0, 1)), ('m',)), (((0, 1), (0, 1), (1, 1), (2, 1)), ('k',)))
>>> [held(net), round_of(net, 'm'), round_of(net, 'k'), alike(net, 3), shows_rounds(net, own)]
[('m', 'k'), 1, 2, True, True]
>>> [rings for pulls, rings in rounds(net)]
[('m',), ('k',)]
"""

LOOSENING = r"""
>>> from cordsatrest.nets import Net
>>> from cordsatrest.rounds import held, loosening, shows_loosening
>>> rows = ('net 2', 'peg a 0 0', 'peg b 4 0', 'ring m 2 0 0 0', 'ring k 2 1 0 0', 'cord a m', 'cord b m', 'cord k m')
>>> net = Net('\n'.join(rows))
>>> own = ((((0, 1), (0, 1)), ((1, 1), (-2, 1))), (1, 4))
>>> [held(net), shows_loosening(net, own), shows_loosening(net, (own[0], (1, 1))), shows_loosening(net, loosening(net))]
[('m',), True, False, True]
"""


class TestExamples(unittest.TestCase):
    def check(self, name, text):
        example = doctest.DocTestParser().get_doctest(text, {}, name, None, 0)
        wrong = []
        done = doctest.DocTestRunner().run(example, out=wrong.append)
        self.assertGreater(done.attempted, 0)
        self.assertEqual(done.failed, 0, ''.join(wrong))

    def test_nets(self):
        self.check('nets', NETS)

    def test_placements(self):
        self.check('placements', PLACEMENTS)

    def test_rounds(self):
        self.check('rounds', ROUNDS)

    def test_loosening(self):
        self.check('loosening', LOOSENING)

    def test_readme(self):
        with open(README, encoding='utf-8') as file:
            self.check('readme', file.read().replace('```', ''))


if __name__ == '__main__':
    unittest.main()
