"""Section 20: a desk."""

import random
import unittest

from cordsatrest.bench import Bench
from cordsatrest.broken import lasting, needed, spare
from cordsatrest.desk import Desk
from cordsatrest.errors import (
    BadJournal, BadPlace, BadWeight, BadWords, Last, NoCord, NoName, NoPeg, NoRing, NotHeld, NothingToRedo, NothingToUndo,
    NotHung, NoTrial, RestError, Tied, Together, TooMany,
)
from cordsatrest.hanging import does_hang
from cordsatrest.journals import journal, read_journal
from cordsatrest.lots import does_stay, lots
from cordsatrest.rounds import held, round_of
from hands import WORKED, after, comes_and_goes, deed_words, random_deed
from support import (
    bound_net, full_stairs, grid_net, hung_nets, knit_nets, net_of, odd_values, random_nets, refused, stairs,
)
from test_bench import whole_state
from test_journals import DEEDS, HEAD, NOT_DEEDS, REFUSED, text_of

QUESTIONS = ('undo', 'redo', 'net', 'held', 'hangs', 'lots', 'lasting', 'spare')
OF_RINGS = ('round', 'stays', 'needed')


def desk_of(net):
    return Desk('bench\n' + net.text)


def listed(parts):
    return ' '.join(map(str, parts)) if parts else '-'


def expected_answers(net):
    """For each question that changes nothing its answer, or the error and its value."""
    found = {
        'net': '; '.join(net.text.split('\n')), 'held': listed(held(net)), 'hangs': 'yes' if does_hang(net) else 'no',
        'lasting': listed(lasting(net)), 'spare': listed(spare(net)), 'lots': (NotHung, None),
    }
    if does_hang(net):
        found['lots'] = '; '.join(map(' '.join, lots(net)))
    for ring in net.rings:
        number = round_of(net, ring)
        found['round ' + ring] = '-' if number is None else str(number)
        found['stays ' + ring] = (NotHung, None)
        if does_hang(net):
            found['stays ' + ring] = 'yes' if does_stay(net, ring) else 'no'
        found['needed ' + ring] = listed(needed(net, ring)) if ring in held(net) else (NotHeld, ring)
    for name in net.pegs + ('no', '0', '*', 'Held'):
        for word in OF_RINGS:
            found[word + ' ' + name] = NoRing, name
    return found


class TestSay(unittest.TestCase):
    def check(self, desk, line, expected):
        if isinstance(expected, tuple):
            refused(self, expected[0], expected[1], desk.say, line)
        else:
            answer = desk.say(line)
            self.assertIs(type(answer), str)
            self.assertEqual(answer, expected)

    def test_questions(self):
        nets = knit_nets(30, 8, 51) + random_nets(15, 7, 52) + hung_nets(40, 7, 53) + [WORKED, stairs(3), net_of('net 2', 'peg a 0 0')]
        seen = set()
        for net in nets:
            desk = desk_of(net)
            ahead = whole_state(desk.bench)
            for line, expected in expected_answers(net).items():
                with self.subTest(net=net.text, line=line):
                    self.check(desk, line, expected)
                    self.assertEqual(whole_state(desk.bench), ahead)
                    seen.add((line.split(' ')[0], expected if expected in ('-', 'yes', 'no', '1', '2') else ''))
        for key in (('held', '-'), ('round', '-'), ('round', '1'), ('round', '2'), ('hangs', 'yes'), ('hangs', 'no'), ('stays', 'yes'),
                    ('stays', 'no'), ('lasting', '-'), ('lasting', ''), ('spare', '-'), ('spare', ''), ('needed', '-'), ('needed', '')):
            self.assertIn(key, seen)

    def test_deeds(self):
        chance = random.Random(9)
        for net in knit_nets(30, 6, 61) + random_nets(10, 6, 62) + [WORKED]:
            desk, text, lines = desk_of(net), net.text, []
            for _ in range(12):
                deed = random_deed(chance, text)
                expected = after(text, deed)
                line = deed_words(deed)
                if isinstance(expected, tuple):
                    refused(self, expected[0], expected[1], desk.say, line)
                else:
                    come, gone = comes_and_goes(text, expected)
                    self.check(desk, line, 'come {}; gone {}'.format(listed(come), listed(gone)))
                    text = expected
                    lines.append(line)
                self.assertEqual(journal(desk.bench), '\n'.join(['bench', net.text] + lines))
                self.assertEqual(desk.bench.net.text, text)

    def test_each_deed(self):
        answers = ('come m k; gone -', 'come -; gone k', 'come -; gone -', 'come -; gone -', 'come k; gone -', 'come -; gone c')
        desk = desk_of(WORKED)
        for (line, _), answer in zip(DEEDS, answers):
            self.assertEqual(desk.say(line=line), answer)
        self.assertEqual(journal(desk.bench), text_of(*[line for line, _ in DEEDS]))

    def test_undo_and_redo(self):
        desk = desk_of(WORKED)
        refused(self, NothingToUndo, None, desk.say, 'undo')
        refused(self, NothingToRedo, None, desk.say, 'redo')
        desk.say('tie b m')
        self.assertEqual([desk.say('held'), desk.say('undo'), desk.say('held'), desk.say('redo'), desk.say('held')],
                         ['m k', 'ok', '-', 'ok', 'm k'])
        refused(self, NothingToRedo, None, desk.say, 'redo')
        desk.say('undo')
        desk.say('cut 0')
        refused(self, NothingToRedo, None, desk.say, 'redo')

    def test_several_lots(self):
        desk = desk_of(net_of('net 2', 'peg p 0 5', 'ring k 0 3 0 -1', 'ring u 1 0 -1 0', 'ring v 3 0 1 0', 'cord p k', 'cord u v', 'cord k u'))
        self.assertEqual([desk.say('lots'), desk.say('stays k'), desk.say('stays u')], ['p k; u v', 'yes', 'no'])
        desk.say('weigh k 0 1')
        self.assertEqual(desk.say('hangs'), 'no')
        for line in ('lots', 'stays k', 'stays u'):
            refused(self, NotHung, None, desk.say, line)
        refused(self, NoRing, 'p', desk.say, 'stays p')

    def test_errors_of_deeds(self):
        desk = desk_of(WORKED)
        two = ((1, 1), (1, 1))
        for line, error, value in (
            ('tie z m', NoName, 'z'), ('tie m Z', NoName, 'Z'), ('tie a b', Tied, ('a', 'b')), ('tie m a', Tied, ('m', 'a')),
            ('cut 3', NoCord, 3), ('cut -1', NoCord, -1), ('move a 1 1', NoRing, 'a'), ('move m 1', BadPlace, two[:1]),
            ('move m 1 1 1', BadPlace, two + two[:1]), ('move m 1 -1/61', BadPlace, (two[0], (-1, 61))), ('move m 0 0', Together, 0),
            ('weigh a 1 1', NoRing, 'a'), ('weigh m 1 1001', BadWeight, (two[0], (1001, 1))), ('weigh m 1', BadWeight, two[:1]),
            ('pin a', NoRing, 'a'), ('free m', NoPeg, 'm'),
        ):
            ahead = whole_state(desk.bench)
            refused(self, error, value, desk.say, line)
            self.assertEqual(whole_state(desk.bench), ahead)
        desk.say('free a')
        desk.say('free b')
        refused(self, Last, 'c', desk.say, 'free c')
        full = desk_of(full_stairs(2))
        refused(self, TooMany, 21, full.say, 'tie a y')
        refused(self, TooMany, 17, full.say, 'pin y')
        refused(self, TooMany, 9, full.say, 'free a')

    def test_a_line_that_is_refused_changes_nothing(self):
        desk = Desk(text_of('tie b m', 'cut 1', 'move k 3 1'))
        desk.say('undo')
        ahead = whole_state(desk.bench)
        for line in NOT_DEEDS + REFUSED + ('round z', 'stays a', 'needed k', 'what', 'keep'):
            if line not in QUESTIONS:
                try:
                    desk.say(line)
                except RestError:
                    self.assertEqual(whole_state(desk.bench), ahead)
        self.assertEqual(desk.say('redo'), 'ok')


class TestBadWords(unittest.TestCase):
    def test_none_of_the_forms(self):
        desk = Desk(text_of('tie b m'))
        lines = [line for line in NOT_DEEDS if line not in QUESTIONS and line not in ('round m', 'stays m', 'needed m')]
        for word in QUESTIONS:
            lines += [word + ' ', ' ' + word, word + ' m', word + 's', word.upper(), word + '  ', word[:-1], word + '\t']
        for word in OF_RINGS:
            lines += [word, word + ' ', word + '  m', word + ' m ', ' ' + word + ' m', word + ' m k', word + 'm', word.upper() + ' m']
        for line in lines:
            with self.subTest(line):
                refused(self, BadWords, line, desk.say, line)
                refused(self, BadWords, line, desk.say, line=line)

    def test_line_feeds(self):
        desk = Desk(text_of('tie b m'))
        for line in ('held\n', '\nheld', 'held\nheld', '\n', 'round\nm', 'round m\n', 'tie b k\n', 'tie a\nk', 'pin k\nm', 'cut 0\n', 'pin \n',
                     'stays \nm', 'needed m\nk'):
            with self.subTest(line):
                refused(self, BadWords, line, desk.say, line)
        self.assertEqual(desk.bench.done, 1)

    def test_no_string(self):
        desk = desk_of(WORKED)
        for value in odd_values() + [b'held', ['held'], ('tie', 'b', 'm'), ('cut', 0)]:
            with self.subTest(value=value):
                refused(self, BadWords, value, desk.say, value)

    def test_words_of_any_signs(self):
        desk = desk_of(WORKED)
        for name in ('*', 'm;', 'M', '-', "'", '12', 'toolong', 'a/b', '\\', '{}', '~'):
            refused(self, NoRing, name, desk.say, 'round ' + name)
            refused(self, NoName, name, desk.say, 'tie m ' + name)
            refused(self, NoRing, name, desk.say, 'pin ' + name)
            refused(self, NoPeg, name, desk.say, 'free ' + name)
            refused(self, NoRing, name, desk.say, 'move ' + name + ' 1 1')


class TestDesk(unittest.TestCase):
    def test_begins_with_a_journal(self):
        text = text_of('tie b m', 'cut 1')
        for desk in (Desk(text), Desk(text=text)):
            self.assertIs(type(desk.bench), Bench)
            self.assertEqual(desk.bench, read_journal(text))
            self.assertEqual(journal(desk.bench), text)
            self.assertEqual((desk.say('undo'), desk.say('undo')), ('ok', 'ok'))
            refused(self, NothingToUndo, None, desk.say, 'undo')

    def test_no_journal(self):
        for value in odd_values():
            refused(self, BadJournal, 1 if isinstance(value, str) else 0, Desk, value)
        refused(self, BadJournal, 2, Desk, 'bench')
        refused(self, BadJournal, 2, Desk, text='bench\ntie a b')
        refused(self, BadJournal, len(HEAD) + 2, Desk, text_of('tie b m', 'tie b m'))
        refused(self, BadJournal, len(HEAD) + 1, Desk, text_of(''))

    def test_the_very_bench(self):
        desk = desk_of(WORKED)
        bench = desk.bench
        self.assertIs(desk.bench, bench)
        bench.tie('b', 'm')
        self.assertEqual(desk.say('held'), 'm k')
        desk.say('cut 0')
        self.assertEqual(bench.done, 2)
        desk.say('undo')
        self.assertEqual(bench.done, 1)
        bench.undo()
        self.assertEqual(desk.say('held'), '-')
        self.assertEqual(desk.say('redo'), 'ok')
        self.assertIs(desk.bench, bench)

    def test_within_a_trial(self):
        desk = desk_of(WORKED)
        with desk.bench.trial():
            self.assertEqual(desk.say('tie b m'), 'come m k; gone -')
            self.assertEqual(desk.say('held'), 'm k')
        self.assertEqual(desk.say('held'), '-')
        self.assertEqual(desk.bench.tried(lambda found: desk.say('pin k'), keep=True), 'come k; gone -')
        self.assertEqual(desk.say('net').split('; ')[4], 'peg k 2 2')
        refused(self, NoTrial, None, desk.bench.keep)

    def test_two_desks(self):
        one, other = desk_of(WORKED), desk_of(WORKED)
        one.say('cut 0')
        self.assertEqual((one.bench.done, other.bench.done), (1, 0))

    def test_each_at_bounds(self):
        for net in (full_stairs(2), full_stairs(3), grid_net(1), grid_net(2), bound_net(3)):
            desk = desk_of(net)
            for line, expected in expected_answers(net).items():
                TestSay.check(self, desk, line, expected)
            ring = net.rings[0]
            row = ' '.join(['1/59'] * net.coords)
            for line in ('cut 19', 'tie {} {}'.format(*net.cords[19]), 'move {} {}'.format(ring, row), 'weigh {} {}'.format(ring, row)):
                self.assertRegex(desk.say(line), '^come [a-z -]+; gone [a-z -]+$')
            self.assertEqual([desk.say('undo') for _ in range(4)], ['ok'] * 4)
            self.assertEqual(desk.bench, Bench(net))


if __name__ == '__main__':
    unittest.main()
