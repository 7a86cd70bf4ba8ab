"""Section 4: nets."""

import unittest

from cordsatrest.errors import BadNet, NoCord, NoName
from cordsatrest.nets import Net, cords_at, place_of, square_of, weight_of
from support import (
    NONE, PEGS, RINGS, bound_net, drawn, exact, net_of, odd_values, random_nets, refused, square_between, told, weights,
)

LINES = [
    'net 2', 'peg a 0 0', 'peg b 4 1/3', 'ring r 2 -1/2 0 -1', 'ring s 2 -2 1/2 0', 'cord a r', 'cord r b', 'cord s r',
]


def peg_lines(many):
    return ['peg {} {}'.format(name, at) for at, name in enumerate((PEGS + 'z')[:many])]


def ring_lines(many):
    return ['ring {} {} 0'.format(name, 100 + at) for at, name in enumerate((RINGS + 'y')[:many])]


def cord_lines(many):
    """So many cords, at most 32, of four rings and eight pegs."""
    return ['cord {} {}'.format(RINGS[at % 4], PEGS[at // 4]) for at in range(many)]


class TestText(unittest.TestCase):
    def takes(self, *lines):
        text = '\n'.join(lines)
        self.assertEqual(Net(text).text, text)

    def refuses(self, number, *lines):
        refused(self, BadNet, number, Net, '\n'.join(lines))

    def test_properties(self):
        net = net_of(*LINES)
        self.assertEqual(net.text, '\n'.join(LINES))
        self.assertEqual((net.coords, net.pegs, net.rings), (2, ('a', 'b'), ('r', 's')))
        self.assertEqual(net.cords, (('a', 'r'), ('r', 'b'), ('s', 'r')))
        self.assertEqual(len(net), 2)

    def test_one_to_three_coordinates(self):
        for coords in (1, 2, 3):
            net = net_of('net {}'.format(coords), 'peg a' + ' 1' * coords, 'ring b' + ' 2' * coords + ' 3' * coords)
            self.assertEqual(net.coords, coords)
            self.assertEqual(place_of(net, 'b'), ((2, 1),) * coords)
            self.assertEqual(weight_of(net, 'b'), ((3, 1),) * coords)

    def test_no_ring_no_cord(self):
        net = net_of('net 3', 'peg a 0 0 0')
        self.assertEqual((net.pegs, net.rings, net.cords, len(net)), (('a',), (), (), 0))
        net = net_of('net 1', 'peg a 0', 'ring r 0 0')
        self.assertEqual((net.pegs, net.rings, net.cords, len(net)), (('a',), ('r',), (), 1))

    def test_no_string(self):
        for value in [value for value in odd_values() if not isinstance(value, str)] + [tuple(LINES), LINES]:
            with self.subTest(value=value):
                refused(self, BadNet, 0, Net, value)

    def test_first_line(self):
        for line in ('', 'net', 'net 0', 'net 4', 'net -1', 'net 02', 'net +2', 'net 2/1', 'net  2', 'net 2 ', ' net 2',
                     'Net 2', 'net 2 2', 'net x', 'nets 2', 'peg a 0', 'net\t2', 'net 12', 'net 1.0', 'bench'):
            with self.subTest(line):
                self.refuses(1, line)
                self.refuses(1, line, 'peg a 0')

    def test_a_peg_lacks(self):
        self.refuses(2, 'net 1')
        self.refuses(2, 'net 1', '')
        self.refuses(2, 'net 1', 'ring r 1 0')
        self.refuses(2, 'net 1', 'cord r a')

    def test_line_feeds(self):
        self.refuses(9, *(LINES + ['']))
        self.refuses(3, 'net 1', 'peg a 0', '')
        self.refuses(2, 'net 1', '', 'peg a 0')
        self.refuses(1, '', 'net 1', 'peg a 0')
        self.refuses(1, 'net 1\r', 'peg a 0')
        self.refuses(2, 'net 1', 'peg a 0\r')

    def test_sequence_of_lines(self):
        for number, line in ((3, 'net 1'), (4, 'net 1'), (4, 'peg c 3'), (5, 'peg c 3'), (5, 'ring t 5 0'),
                             (5, 'net 1')):
            lines = ['net 1', 'peg a 0', 'ring r 1 0', 'cord a r']
            lines.insert(number - 1, line)
            with self.subTest(lines=lines):
                self.refuses(number, *lines)

    def test_words_of_lines(self):
        for line in ('peg', 'peg b', 'peg b 0 0', 'peg b  0', 'peg b 0 ', ' peg b 0', 'peg 0', 'pegs b 0', 'PEG b 0',
                     'b 0', 'x', ' ', 'ring', 'ring r', 'ring r 0', 'ring r 0 0 0', 'ring r  0 0', 'ring r 0 0 ',
                     'cord', 'cord r', 'cord a b', '#'):
            with self.subTest(line):
                self.refuses(3, 'net 1', 'peg a 0', line)
        for line in ('peg b 0', 'peg b 0 0 0', 'ring r 0 0 0', 'ring r 0 0 0 0 0', 'ring r 0 0'):
            with self.subTest(line):
                self.refuses(3, 'net 2', 'peg a 0 0', line)
        for line in ('cord a r r', 'cord a', 'cord  a r', 'cord a  r', 'cord a r ', 'Cord a r', 'cord', 'cords a r'):
            with self.subTest(line):
                self.refuses(4, 'net 1', 'peg a 0', 'ring r 1 0', line)

    def test_names(self):
        for name in ('a', 'z', 'abcdef', 'peg', 'ring', 'cord', 'net'):
            self.takes('net 1', 'peg {} 0'.format(name), 'ring qq 1 0', 'cord {} qq'.format(name))
            self.takes('net 1', 'peg qq 0', 'ring {} 1 0'.format(name), 'cord qq {}'.format(name))
        for name in ('abcdefg', '', 'A', 'aB', 'a1', 'a_b', 'a-b', '1', '-', 'a\tb', 'a/b'):
            with self.subTest(name):
                self.refuses(2, 'net 1', 'peg {} 0'.format(name))
                self.refuses(3, 'net 1', 'peg qq 0', 'ring {} 1 0'.format(name))

    def test_names_are_unlike(self):
        self.refuses(3, 'net 1', 'peg a 0', 'peg a 1')
        self.refuses(3, 'net 1', 'peg a 0', 'ring a 1 0')
        self.refuses(4, 'net 1', 'peg a 0', 'ring b 1 0', 'ring b 2 0')

    def test_fractions(self):
        for part, value in (('1000', (1000, 1)), ('-1000', (-1000, 1)), ('0', (0, 1)), ('1/60', (1, 60)), ('7', (7, 1)),
                            ('-999/59', (-999, 59)), ('1000/59', (1000, 59)), ('-1/2', (-1, 2))):
            with self.subTest(part):
                net = net_of('net 1', 'peg a ' + part, 'ring b {} {}'.format(part, part))
                self.assertEqual([place_of(net, 'a'), place_of(net, 'b'), weight_of(net, 'b')], [(value,)] * 3)
        for part in ('1001', '-1001', '1001/2', '-1001/2', '1/61', '60/61', '2/4', '4/2', '0/2', '0/1', '1/1', '1/0',
                     '0/0', '-0', '00', '01', '-01', '+1', '1.0', '1.5', '1e2', '0x1', '1/02', '01/2', '1/', '/2', '/',
                     '-', '-/2', '1/-2', '-1/-2', '1/+2', '1/2/3', '--1', '1_0', 'one', 'a', '', '1 /2', '9' * 3000,
                     '1/' + '9' * 3000, '10' * 6):
            with self.subTest(part):
                self.refuses(2, 'net 1', 'peg a ' + part)
                self.refuses(3, 'net 1', 'peg a 0', 'ring b {} 0'.format(part))
                self.refuses(3, 'net 1', 'peg a 0', 'ring b 0 {}'.format(part))
                self.refuses(2, 'net 3', 'peg a 0 0 {}'.format(part))

    def test_many_pegs(self):
        self.takes('net 1', *peg_lines(16))
        self.refuses(18, 'net 1', *peg_lines(17))

    def test_many_rings(self):
        self.takes('net 1', *peg_lines(16), *ring_lines(8))
        self.refuses(11, 'net 1', 'peg a 0', *ring_lines(9))
        self.refuses(26, 'net 1', *peg_lines(16), *ring_lines(9))

    def test_many_cords(self):
        self.takes('net 1', *peg_lines(8), *ring_lines(4), *cord_lines(20))
        self.refuses(34, 'net 1', *peg_lines(8), *ring_lines(4), *cord_lines(21))

    def test_ends_of_cords(self):
        lines = ['net 2', 'peg a 0 0', 'peg b 1 1', 'ring r 0 0 0 0', 'ring s 2 2 0 0', 'ring t 2 2 0 0']
        for line in ('cord a b', 'cord a r', 'cord r a', 'cord s t', 'cord t s', 'cord r r', 'cord a a', 'cord r u',
                     'cord u r', 'cord A r', 'cord r 1', 'cord r -'):
            with self.subTest(line):
                self.refuses(7, *(lines + [line]))
        for line in ('cord a s', 'cord s a', 'cord r s', 'cord s r', 'cord r b'):
            self.takes(*(lines + [line]))

    def test_cords_that_stand_already(self):
        lines = ['net 1', 'peg a 0', 'peg b 1', 'ring r 1 0', 'ring s 2 0', 'cord r a', 'cord r s']
        for line in ('cord r a', 'cord a r', 'cord r s', 'cord s r'):
            with self.subTest(line):
                self.refuses(8, *(lines + [line]))
        self.takes(*(lines + ['cord a s', 'cord s b']))
        self.refuses(5, 'net 1', 'peg a 0', 'ring r 1 0', 'cord r a', 'cord a r')
        self.refuses(4, 'net 1', 'peg a 0', 'ring r 0 0', 'cord r a', 'cord a r')

    def test_the_first_wrong_line_counts(self):
        self.refuses(3, 'net 1', 'peg a 0', 'peg a 0', 'ring', '', 'cord a a')
        self.refuses(1, 'net 5', 'peg a 0', 'peg a 0')
        self.refuses(4, 'net 1', 'peg a 0', 'ring r 1 0', 'cord r b', 'peg b 3')
        self.refuses(2, 'net 1', 'ring r 1 0', '')

    def test_net_by_name(self):
        self.assertEqual(Net(text='net 1\npeg a 0'), Net('net 1\npeg a 0'))
        refused(self, BadNet, 2, Net, text='net 1')


class TestEqual(unittest.TestCase):
    def test_equal_by_text(self):
        one = net_of(*LINES)
        self.assertTrue(one == net_of(*LINES))
        self.assertFalse(one != net_of(*LINES))
        for lines in (LINES[:-1], LINES[:-1] + ['cord r s'], ['net 1', 'peg a 0']):
            self.assertFalse(one == net_of(*lines))
            self.assertTrue(one != net_of(*lines))

    def test_equal_nothing_else(self):
        one = net_of('net 1', 'peg a 0')
        for value in odd_values() + [one.text, (one,), [one], (one.text,)]:
            self.assertFalse(one == value)
            self.assertFalse(value == one)
            self.assertTrue(one != value)


class TestFunctions(unittest.TestCase):
    def test_place_and_weight(self):
        net = net_of(*LINES)
        self.assertEqual(place_of(net, 'b'), ((4, 1), (1, 3)))
        self.assertEqual(place_of(net, 'r'), ((2, 1), (-1, 2)))
        self.assertEqual(weight_of(net, 's'), ((1, 2), (0, 1)))
        self.assertEqual(weight_of(net, 'b'), (NONE, NONE))

    def test_square(self):
        net = net_of(*LINES)
        self.assertEqual([square_of(net, cord) for cord in range(3)], [(17, 4), (169, 36), (9, 4)])

    def test_cords_at(self):
        net = net_of(*LINES)
        self.assertEqual([cords_at(net, name) for name in 'abrs'], [(0,), (1,), (0, 1, 2), (2,)])
        self.assertEqual(cords_at(net_of('net 1', 'peg a 0', 'ring r 1 0'), 'r'), ())

    def test_no_name(self):
        net = net_of(*LINES)
        for call in (place_of, weight_of, cords_at):
            for value in odd_values() + ['c', 'ar', 'A', ('a',), ['a'], 0, net]:
                with self.subTest(call=call, value=value):
                    refused(self, NoName, value, call, net, value)
                    refused(self, NoName, value, call, name=value, net=net)

    def test_no_cord(self):
        net = net_of(*LINES)
        for value in odd_values() + [3, -1, -3, 'a', '0', (0,), [0], ('a', 'r'), (0, 1), True, False]:
            with self.subTest(value=value):
                refused(self, NoCord, value, square_of, net, value)
                refused(self, NoCord, value, square_of, cord=value, net=net)
        refused(self, NoCord, 0, square_of, net_of('net 1', 'peg a 0', 'ring r 1 0'), 0)

    def test_by_name(self):
        net = net_of(*LINES)
        for call in (place_of, weight_of, cords_at):
            self.assertEqual(call(name='r', net=net), call(net, 'r'))
        self.assertEqual(square_of(cord=1, net=net), square_of(net, 1))

    def check_net(self, net):
        self.assertEqual(Net(net.text), net)
        self.assertEqual(net.pegs + net.rings, tuple(drawn(net)))
        for name, place in drawn(net).items():
            self.assertEqual(exact(place_of(net, name)), place)
            self.assertEqual(exact(weight_of(net, name)), weights(net).get(name, [0] * net.coords))
            self.assertEqual(cords_at(net, name), tuple(at for at, ends in enumerate(net.cords) if name in ends))
        for cord, ends in enumerate(net.cords):
            self.assertEqual(square_of(net, cord), told(square_between(drawn(net), *ends)))
            for end in ends:
                self.assertIn(cord, cords_at(net, end))

    def test_all_nets(self):
        for net in random_nets(60, most_cords=20):
            with self.subTest(net.text):
                self.check_net(net)

    def test_at_bounds(self):
        for coords in (1, 2, 3):
            with self.subTest(coords):
                self.check_net(bound_net(coords))


if __name__ == '__main__':
    unittest.main()
