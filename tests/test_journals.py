"""Section 20: journals."""

import random
import unittest

from cordsatrest.bench import Bench
from cordsatrest.errors import BadJournal, BadNet, NothingToRedo, NothingToUndo
from cordsatrest.journals import journal, read_journal
from cordsatrest.nets import Net
from hands import WORKED, after, deed_words, do, random_deed
from support import bound_net, full_stairs, grid_net, knit_nets, net_of, odd_values, random_nets, refused, stairs

HEAD = ['bench'] + WORKED.text.split('\n')
NEXT = len(HEAD) + 1
DEEDS = (
    ('tie b m', ('tie', 'b', 'm')),
    ('cut 1', ('cut', 1)),
    ('move k 3 -1/60', ('move', 'k', ((3, 1), (-1, 60)))),
    ('weigh m 1 -1/2', ('weigh', 'm', ((1, 1), (-1, 2)))),
    ('pin k', ('pin', 'k')),
    ('free c', ('free', 'c')),
)
# lines that are nearly of one of the forms, or of another kind
NOT_DEEDS = (
    '', ' ', 'tie', 'tie ', 'tie b', 'tie b ', 'tie b  m', 'tie  b m', 'tie b m ', ' tie b m', 'tie b m k', 'tie b\tm', 'Tie b m',
    'tieb m', 'cut', 'cut ', 'cut  1', 'cut 1 ', 'cut 1 1', 'cut 01', 'cut +1', 'cut -0', 'cut -01', 'cut 1.0', 'cut 1/1', 'cut 1/2',
    'cut one', 'cut 1_0', 'cut --1', 'cut 0x1', 'cut -', 'CUT 1', 'move', 'move k', 'move k ', 'move  k 3 1', 'move k 3  1',
    'move k 3 1 ', 'move k 3 2/4', 'move k 3 1/1', 'move k 3 0/5', 'move k 3 1/0', 'move k 3 -0', 'move k 3 01', 'move k 3 +1',
    'move k 3 1/-2', 'move k 3 1/02', 'move k 3 1//2', 'move k 3 /2', 'move k 3 1/', 'move k 3 a', 'move k 3 1.5', 'move k a 3',
    'move k 3 --1', 'move k 3 - 1', 'move k 3 1 /2', 'weigh', 'weigh m', 'weigh m ', 'weigh m 1  1', 'weigh m 1 2/4', 'weigh m 1 1/1',
    'weigh m 1 -0', 'weigh m 1 x', 'weigh m 1 1 ', 'pin', 'pin ', 'pin k m', 'pin  k', 'pin k ', ' pin k', 'free', 'free ', 'free c a',
    'free  c', 'free c ', 'undo', 'redo', 'net', 'held', 'round m', 'hangs', 'lots', 'stays m', 'needed m', 'lasting', 'spare', 'bench',
    'net 2', 'peg z 1 1', 'ring z 1 1 0 0', 'cord b m', 'copy', 'keep', '#', 'pin;k', 'tie-b-m', '0', 'cut-1',
)
# lines of the right form, whose deeds are refused
REFUSED = (
    'tie a b', 'tie m m', 'tie a m', 'tie m a', 'tie z m', 'tie m Z', 'tie 1 2', 'tie - *', 'cut 3', 'cut -1', 'cut 99', 'move z 1 1',
    'move a 1 1', 'move m 0 0', 'move m 1', 'move m 1 1 1', 'move m 1001 1', 'move m 1 1/61', 'move m 1/999 5', 'move K 1 1',
    'weigh z 1 1', 'weigh c 0 0', 'weigh m 1', 'weigh m 1 1 1', 'weigh m -1001 1', 'weigh m 1 1/61', 'pin z', 'pin a', 'pin 7', 'free m',
    'free z', 'free toolong', 'tie a/b m', 'pin _',
)


def text_of(*lines):
    return '\n'.join(HEAD + list(lines))


class TestJournal(unittest.TestCase):
    def test_lines_of_deeds(self):
        bench = Bench(WORKED)
        lines = []
        self.assertEqual(journal(bench), text_of())
        for line, deed in DEEDS:
            do(bench, deed)
            lines.append(line)
            self.assertEqual(journal(bench), text_of(*lines))
            self.assertEqual(journal(bench=bench), journal(bench))
        for _ in DEEDS:
            bench.undo()
            lines.pop()
            self.assertEqual(journal(bench), text_of(*lines))
        bench.redo()
        bench.redo()
        self.assertEqual(journal(bench), text_of('tie b m', 'cut 1'))
        bench.pin('m')
        self.assertEqual(journal(bench), text_of('tie b m', 'cut 1', 'pin m'))

    def test_deeds_in_a_trial(self):
        bench = Bench(WORKED)
        with bench.trial():
            bench.cut(0)
            self.assertEqual(journal(bench), text_of('cut 0'))
        self.assertEqual(journal(bench), text_of())

    def test_numbers(self):
        bench = Bench(net_of('net 3', 'peg a 0 0 0', 'ring r 1 0 0 0 0 0'))
        bench.move('r', ((-1000, 1), (999, 59), (0, 1)))
        bench.weigh('r', ((1, 60), (-1, 60), (1000, 1)))
        self.assertEqual(journal(bench).split('\n')[4:], ['move r -1000 999/59 0', 'weigh r 1/60 -1/60 1000'])

    def test_read_back(self):
        chance = random.Random(7)
        for net in knit_nets(30, 6, 41) + random_nets(20, 6, 42) + [WORKED, stairs(3)]:
            bench = Bench(net)
            for _ in range(12):
                deed = random_deed(chance, bench.net.text)
                if isinstance(after(bench.net.text, deed), str):
                    do(bench, deed)
                if chance.random() < 0.2 and bench.done:
                    bench.undo()
            found = read_journal(journal(bench))
            self.assertIs(type(found), Bench)
            self.assertEqual((found, found.net, found.first, found.done), (bench, bench.net, bench.first, bench.done))
            self.assertEqual(journal(found), journal(bench))
            refused(self, NothingToRedo, None, found.redo)
            texts = [bench.net.text]
            while bench.done:
                bench.undo()
                texts.append(bench.net.text)
            for text in texts[1:]:
                found.undo()
                self.assertEqual(found.net.text, text)
            refused(self, NothingToUndo, None, found.undo)


class TestReadJournal(unittest.TestCase):
    def test_each_form(self):
        for line, deed in DEEDS:
            text = text_of(line)
            expected = Bench(WORKED)
            do(expected, deed)
            for found in (read_journal(text), read_journal(text=text)):
                self.assertEqual(found.net, expected.net)
                self.assertEqual(journal(found), text)
                self.assertEqual(deed_words(deed), line)
        found = read_journal(text_of(*[line for line, _ in DEEDS]))
        self.assertEqual((found.done, found.net.pegs, found.net.rings), (6, ('a', 'b', 'k'), ('m', 'c')))

    def test_no_deeds(self):
        for net in (WORKED, net_of('net 1', 'peg a 0'), full_stairs(3)):
            found = read_journal('bench\n' + net.text)
            self.assertEqual((found.net, found.first, found.done), (net, net, 0))

    def test_lines_that_have_no_such_form(self):
        for line in NOT_DEEDS:
            with self.subTest(line):
                refused(self, BadJournal, NEXT + 1, read_journal, text_of('tie b m', line))
                refused(self, BadJournal, NEXT + 1, read_journal, text_of('tie b m', line, 'cut 1'))
                refused(self, BadJournal, NEXT + 1, read_journal, text_of('tie b m', line, line))
                # also as the first one behind the net, as the net's line or as a deed's
                if line != 'cord b m':
                    refused(self, BadJournal, NEXT, read_journal, text_of(line))
                    refused(self, BadJournal, NEXT, read_journal, text_of(line, 'pin k'))

    def test_deeds_that_are_refused(self):
        for line in REFUSED:
            with self.subTest(line):
                refused(self, BadJournal, NEXT, read_journal, text_of(line))
                refused(self, BadJournal, NEXT, read_journal, text_of(line, 'pin k'))
                refused(self, BadJournal, NEXT + 1, read_journal, text_of('weigh m 5 5', line, 'what'))

    def test_the_first_wrong_line(self):
        refused(self, BadJournal, NEXT, read_journal, text_of('cut 7', 'pin', ''))
        refused(self, BadJournal, NEXT + 1, read_journal, text_of('cut 0', 'pin', 'cut 7'))
        refused(self, BadJournal, NEXT + 2, read_journal, text_of('cut 0', 'cut 0', 'cut 1'))
        refused(self, BadJournal, NEXT + 3, read_journal, text_of('cut 0', 'cut 0', 'cut 0', 'cut 0'))

    def test_no_string(self):
        for value in [odd for odd in odd_values() if not isinstance(odd, str)] + [HEAD, tuple(HEAD), b'bench', Bench(WORKED)]:
            with self.subTest(value=value):
                refused(self, BadJournal, 0, read_journal, value)
                refused(self, BadJournal, 0, read_journal, text=value)

    def test_the_first_line(self):
        for first in ('', ' ', 'Bench', 'bench ', ' bench', 'bench 1', 'net 2', 'tie b m', 'desk', '\tbench', 'benc'):
            with self.subTest(first):
                refused(self, BadJournal, 1, read_journal, first)
                refused(self, BadJournal, 1, read_journal, '\n'.join([first] + HEAD[1:]))
                refused(self, BadJournal, 1, read_journal, '\n'.join([first] + HEAD))
        refused(self, BadJournal, 1, read_journal, WORKED.text)
        refused(self, BadJournal, 1, read_journal, '\n')

    def test_no_lines_of_a_net(self):
        refused(self, BadJournal, 2, read_journal, 'bench')
        refused(self, BadJournal, 2, read_journal, 'bench\n')
        refused(self, BadJournal, 2, read_journal, 'bench\ntie a b')
        refused(self, BadJournal, 2, read_journal, 'bench\npin r\nnet 1\npeg a 0')
        refused(self, BadJournal, 2, read_journal, 'bench\nbench')

    def test_errors_in_the_net(self):
        self.assertEqual(len(HEAD), NEXT - 1)
        for at in range(1, len(HEAD)):
            for line in ('', 'peg', 'ring m 2 0 0 0 0', 'what', HEAD[at] + ' ', 'cord m m', 'net 4'):
                lines = HEAD[:at] + [line] + HEAD[at + 1:]
                for more in ([], ['tie b m'], ['what'], ['pin z', '']):
                    with self.assertRaises(BadNet) as caught:
                        Net('\n'.join(lines[1:]))
                    refused(self, BadJournal, caught.exception.value + 1, read_journal, '\n'.join(lines + more))

    def test_a_net_that_lacks_a_peg(self):
        refused(self, BadJournal, 3, read_journal, 'bench\nnet 1')
        refused(self, BadJournal, 3, read_journal, 'bench\nnet 1\npin r')
        refused(self, BadJournal, 3, read_journal, 'bench\nnet 1\nring r 1 0\npin r')
        refused(self, BadJournal, 3, read_journal, 'bench\nnet 1\n')

    def test_where_the_net_ends(self):
        # a deed's word ends the net, alone or ahead of a blank; what only begins like it does not
        for word in ('tie', 'cut', 'move', 'weigh', 'pin', 'free'):
            refused(self, BadJournal, 4, read_journal, 'bench\nnet 1\npeg a 0\n' + word)
            refused(self, BadJournal, 4, read_journal, 'bench\nnet 1\npeg a 0\n' + word + ' ')
            refused(self, BadJournal, 3, read_journal, 'bench\nnet 1\n' + word + 's')
            refused(self, BadJournal, 3, read_journal, 'bench\nnet 1\n' + word + '\npeg a 0')
            refused(self, BadJournal, 3, read_journal, 'bench\nnet 1\n' + word + ' a\npeg a 0')
            # pegs and rings may have these names
            named = Net('net 1\npeg {} 0\nring r 1 0\ncord {} r'.format(word, word))
            self.assertEqual(read_journal('bench\n' + named.text + '\ncut 0').first, named)
            self.assertEqual(read_journal('bench\n' + named.text + '\npin r\nfree ' + word).net.rings, (word,))

    def test_a_line_feed_at_the_end(self):
        refused(self, BadJournal, NEXT, read_journal, text_of(''))
        refused(self, BadJournal, NEXT, read_journal, text_of() + '\n')
        refused(self, BadJournal, NEXT + 1, read_journal, text_of('tie b m') + '\n')
        refused(self, BadJournal, NEXT + 1, read_journal, text_of('tie b m') + '\n\npin k')

    def test_the_net_of_the_journal_is_the_first_one(self):
        found = read_journal(text_of('weigh m 1 1'))
        self.assertEqual(found.first, WORKED)
        self.assertNotEqual(found.net, WORKED)

    def test_at_bounds(self):
        for net in (full_stairs(2), grid_net(2), bound_net(1), bound_net(3)):
            row = ' '.join(['-1/7'] * net.coords)
            lines = ['cut 0', 'tie {} {}'.format(*net.cords[0])] + ['weigh {} {}'.format(ring, row) for ring in net.rings] * 9
            text = '\n'.join(['bench', net.text] + lines)
            self.assertLessEqual(len(text), 4000)
            self.assertEqual(journal(read_journal(text)), text)
            refused(self, BadJournal, 3 + len(lines) + net.text.count('\n'), read_journal, text + '\ncut 20')


if __name__ == '__main__':
    unittest.main()
