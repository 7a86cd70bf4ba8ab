"""Section 19: a net under hands."""

import random
import unittest

from cordsatrest.bench import Bench
from cordsatrest.broken import without
from cordsatrest.errors import (
    BadPlace, BadWeight, Last, NoCord, NoName, NoPeg, NoRing, NothingToRedo, NothingToUndo, NoTrial, RestError, Tied,
    Together, TooMany,
)
from cordsatrest.journals import journal
from cordsatrest.nets import Net
from cordsatrest.rounds import held
from hands import WORKED, after, comes_and_goes, deed_words, do, random_deed
from support import (
    RINGS, bound_net, full_stairs, grid_net, knit_nets, net_of, not_fractions, odd_values, random_nets, refused, stairs,
)

NONE, ONE = (0, 1), (1, 1)
DEEDS = [('tie', 'b', 'm'), ('cut', 1), ('move', 'k', ((3, 1), ONE)), ('weigh', 'm', (ONE, (-1, 2))), ('pin', 'k'), ('free', 'c')]


def state(bench):
    """All that a bench tells."""
    return bench.net, bench.first, bench.done, journal(bench)


def whole_state(bench):
    """All that a bench tells, now and after undoing, and doing again, as far as can be; on a copy."""
    found, other = [state(bench)], bench.copy()
    for step in (other.undo, other.redo):
        while True:
            try:
                step()
            except (NothingToUndo, NothingToRedo):
                break
            found.append(state(other))
    return found


def some_benches():
    return [Bench(net) for net in knit_nets(60, 6, 31) + random_nets(20, 6, 32) + [WORKED, stairs(3)]]


class TestDeeds(unittest.TestCase):
    def test_by_the_words(self):
        chance, told_out = random.Random(5), {}
        for bench in some_benches():
            first, text, done = bench.net, bench.net.text, []
            for _ in range(14):
                deed = random_deed(chance, text)
                expected = after(text, deed)
                with self.subTest(text=text, deed=deed):
                    if isinstance(expected, tuple):
                        refused(self, expected[0], expected[1], do, bench, deed)
                    else:
                        told_value = do(bench, deed)
                        self.assertEqual(told_value, comes_and_goes(text, expected))
                        self.check_one_way(deed[0], told_value)
                        key = deed[0], bool(told_value[0]), bool(told_value[1])
                        told_out[key] = told_out.get(key, 0) + 1
                        text = expected
                        done.append(deed)
                    self.assertEqual(state(bench), (Net(text), first, len(done), self.journal(first, done)))
                    self.assertEqual(bench.net.text, text)
        for key in (('tie', True, False), ('tie', False, False), ('cut', False, True), ('cut', False, False),
                    ('move', True, False), ('move', False, True), ('move', False, False), ('weigh', False, False),
                    ('pin', True, False), ('pin', False, False), ('free', False, True)):
            self.assertIn(key, told_out)

    def journal(self, first, done):
        return '\n'.join(['bench', first.text] + [deed_words(deed) for deed in done])

    def check_one_way(self, kind, told_value):
        come, gone = told_value
        if kind in ('tie', 'pin', 'weigh'):
            self.assertEqual(gone, ())
        if kind in ('cut', 'free', 'weigh'):
            self.assertEqual(come, ())

    def test_begins_with_the_net(self):
        for bench in (Bench(WORKED), Bench(net=WORKED)):
            self.assertIs(bench.net, WORKED)
            self.assertIs(bench.first, WORKED)
            self.assertEqual((bench.done, journal(bench)), (0, 'bench\n' + WORKED.text))

    def test_tie(self):
        bench = Bench(WORKED)
        self.assertEqual(bench.tie(other='m', one='b'), (('m', 'k'), ()))
        self.assertEqual(bench.net.text, WORKED.text + '\ncord b m')
        self.assertEqual(bench.tie('k', 'a'), ((), ()))
        self.assertEqual(bench.net.cords[-1], ('k', 'a'))

    def test_tie_is_refused(self):
        bench = Bench(Net(WORKED.text.replace('cord a m', 'ring n 4 0 0 0\ncord a m')))
        for value in odd_values() + ['z', 'M', ('m',), ['m'], 0, True]:
            refused(self, NoName, value, bench.tie, value, 'm')
            refused(self, NoName, value, bench.tie, 'm', value)
            refused(self, NoName, value, bench.tie, value, None)
            refused(self, NoName, value, bench.tie, other=0, one=value)
        for pair in (('a', 'b'), ('b', 'n'), ('n', 'b'), ('m', 'm'), ('a', 'a'), ('a', 'm'), ('m', 'a'), ('k', 'm'), ('m', 'k')):
            refused(self, Tied, pair, bench.tie, *pair)
        self.assertEqual((bench.done, bench.net), (0, bench.first))

    def test_twenty_cords(self):
        net = full_stairs(2)
        bench = Bench(net)
        refused(self, TooMany, 21, bench.tie, 'a', 'y')
        # ahead of that, what cannot be tied anyhow
        refused(self, Tied, ('a', 'b'), bench.tie, 'a', 'b')
        refused(self, Tied, ('k', 'r'), bench.tie, 'k', 'r')
        refused(self, NoName, 'zz', bench.tie, 'a', 'zz')
        bench.cut(19)
        self.assertEqual(bench.tie('a', 'y')[1], ())
        self.assertEqual(len(bench.net.cords), 20)

    def test_cut(self):
        bench = Bench(Net(WORKED.text + '\ncord b m'))
        self.assertEqual(bench.cut(cord=0), ((), ('m', 'k')))
        self.assertEqual(bench.net.cords, (('c', 'k'), ('k', 'm'), ('b', 'm')))
        for value in odd_values() + [3, -1, '0', (0,), [0], True, False, None, 10 ** 11]:
            refused(self, NoCord, value, bench.cut, value)
        self.assertEqual(bench.done, 1)

    def test_move(self):
        bench = Bench(Net(WORKED.text + '\ncord b m'))
        self.assertEqual(bench.move(place=((2, 1), ONE), ring='k'), ((), ()))
        self.assertEqual(bench.move('k', ((3, 1), ONE)), ((), ('k',)))
        self.assertEqual(bench.move('k', ((2, 1), (59, 60))), (('k',), ()))
        self.assertEqual(bench.net.text.split('\n')[5], 'ring k 2 59/60 0 0')
        self.assertEqual(bench.move('m', ((-1000, 1), (999, 59))), ((), ('m', 'k')))
        # one comes while another one goes
        net = net_of('net 1', 'peg a 0', 'peg b 4', 'peg c 8', 'ring r 2 0', 'ring s 9 0', 'cord a r', 'cord b s', 'cord r s', 'cord s c')
        bench = Bench(net)
        self.assertEqual(held(net), ())
        self.assertEqual(bench.move('s', ((6, 1),)), (('r', 's'), ()))
        # to its own place
        self.assertEqual(bench.move('s', ((6, 1),)), ((), ()))
        self.assertEqual(bench.done, 2)

    def test_move_lets_one_go_and_another_one_come(self):
        net = net_of('net 2', 'peg a 0 0', 'peg b 4 0', 'peg c 0 2', 'peg d 4 2', 'ring r 2 0 0 0', 'ring s 2 2 0 0',
                     'ring t 2 1 0 0', 'cord a r', 'cord r b', 'cord c s', 'cord s d', 'cord t r', 'cord t s')
        bench = Bench(net)
        self.assertEqual(bench.move('s', ((2, 1), (3, 1))), ((), ('s', 't')))
        self.assertEqual(bench.move('s', ((1, 1), (2, 1))), (('s',), ()))
        # t hangs straight on s, and u as straight where s is laid
        net = net_of('net 2', 'peg a 0 0', 'peg b 4 0', 'peg c 2 4', 'peg d 1 4', 'ring t 2 2 0 0', 'ring s 2 0 0 0',
                     'ring u 1 2 0 0', 'cord a s', 'cord b s', 'cord s t', 'cord t c', 'cord s u', 'cord u d')
        bench = Bench(net)
        self.assertEqual(bench.move('s', (ONE, NONE)), (('u',), ('t',)))
        self.assertEqual(bench.move('s', ((2, 1), NONE)), (('t',), ('u',)))

    def test_move_is_refused(self):
        bench = Bench(WORKED)
        row = ((2, 1), ONE)
        for value in odd_values() + ['a', 'z', 'M', ('m',), ['m'], 0]:
            refused(self, NoRing, value, bench.move, value, row)
            refused(self, NoRing, value, bench.move, value, None)
        rows = [(ONE,), (ONE, ONE, ONE), [ONE, ONE], (ONE, [1, 1]), (), (1, 1), ((1001, 1), NONE), (NONE, (-1001, 1)),
                ((1, 61), NONE), (NONE, (1001, 60)), ONE, (ONE, None)]
        for value in odd_values() + rows + [(ONE, part) for part in not_fractions()]:
            refused(self, BadPlace, value, bench.move, 'k', value)
            refused(self, BadPlace, value, bench.move, place=value, ring='m')
        refused(self, Together, 0, bench.move, 'm', (NONE, NONE))
        refused(self, Together, 2, bench.move, 'm', ((2, 1), (2, 1)))
        refused(self, Together, 2, bench.move, 'k', ((2, 1), NONE))
        refused(self, Together, 1, bench.move, 'k', ((2, 1), (4, 1)))
        self.assertEqual(state(bench), state(Bench(WORKED)))
        # a peg to which it has no cord
        self.assertEqual(bench.move('m', ((4, 1), NONE)), ((), ()))
        # two cords come to one place at once
        both = Bench(net_of('net 1', 'peg a 0', 'peg b 0', 'ring r 1 0', 'ring s 5 0', 'cord s r', 'cord r b', 'cord a r'))
        refused(self, Together, 1, both.move, 'r', (NONE,))

    def test_weigh(self):
        bench = Bench(Net(WORKED.text + '\ncord b m'))
        self.assertEqual(bench.weigh(weight=((1000, 1), (-1, 60)), ring='k'), ((), ()))
        self.assertEqual(bench.net.text.split('\n')[4:6], ['ring m 2 0 0 0', 'ring k 2 2 1000 -1/60'])
        for value in odd_values() + ['a', 'z', ('m',), ['m'], 0]:
            refused(self, NoRing, value, bench.weigh, value, (ONE, ONE))
            refused(self, NoRing, value, bench.weigh, value, None)
        rows = [(ONE,), (ONE, ONE, ONE), [ONE, ONE], (), (1, 1), ((1001, 1), NONE), (NONE, (-1, 61)), (ONE, [1, 1]), ONE]
        for value in odd_values() + rows + [(ONE, part) for part in not_fractions()]:
            refused(self, BadWeight, value, bench.weigh, 'k', value)
        self.assertEqual(bench.done, 1)

    def test_pin(self):
        bench = Bench(Net(WORKED.text.replace('k 2 2 0 0', 'k 2 2 5 1/7') + '\ncord k b\ncord b m'))
        self.assertEqual(bench.pin(ring='k'), ((), ()))
        self.assertEqual(bench.net.text.split('\n')[1:], [
            'peg a 0 0', 'peg b 4 0', 'peg c 2 4', 'peg k 2 2', 'ring m 2 0 0 0', 'cord a m', 'cord k m', 'cord b m'])
        self.assertEqual(bench.pin('m'), ((), ()))
        self.assertEqual((bench.net.rings, bench.net.cords, bench.net.pegs[3:]), ((), (), ('k', 'm')))
        for value in odd_values() + ['a', 'k', ('m',), ['m'], 0]:
            refused(self, NoRing, value, bench.pin, value)

    def test_what_is_pinned_ties_others(self):
        net = net_of('net 1', 'peg a 0', 'ring r 2 1', 'ring s 1 0', 'cord a s', 'cord r s')
        bench = Bench(net)
        self.assertEqual(bench.pin('r'), (('r', 's'), ()))
        self.assertEqual(bench.free('a'), ((), ('a', 's')))
        self.assertEqual(bench.net.text, 'net 1\npeg r 2\nring s 1 0\nring a 0 0\ncord a s\ncord r s')

    def test_come_and_gone_in_sequence(self):
        # what comes stands as it does behind the deed: pegs first
        net = net_of('net 1', 'peg z 0', 'ring r 2 0', 'ring s 4 0', 'ring t 6 0', 'cord z r', 'cord s r', 'cord s t')
        bench = Bench(net)
        self.assertEqual(bench.pin('t'), (('t', 'r', 's'), ()))
        self.assertEqual(bench.pin('s'), ((), ()))
        self.assertEqual(bench.free('t'), ((), ('t',)))
        self.assertEqual(bench.free('z'), ((), ('z', 'r')))
        self.assertEqual(bench.net.rings, ('r', 't', 'z'))

    def test_sixteen_pegs(self):
        bench = Bench(grid_net(2))
        ring = bench.net.rings[0]
        refused(self, TooMany, 17, bench.pin, ring)
        refused(self, NoRing, 'a', bench.pin, 'a')
        fewer = Bench(Net('\n'.join(line for line in bench.net.text.split('\n') if line.split(' ')[1] != 'p' and line[-2:] != ' p')))
        self.assertEqual(len(fewer.net.pegs), 15)
        fewer.pin(ring)
        self.assertEqual(len(fewer.net.pegs), 16)
        refused(self, TooMany, 17, fewer.pin, fewer.net.rings[0])

    def test_free(self):
        net = Net(WORKED.text + '\ncord b m')
        bench = Bench(net)
        self.assertEqual(bench.free(peg='a'), ((), ('a', 'm', 'k')))
        self.assertEqual(bench.net.text.split('\n')[1:6], ['peg b 4 0', 'peg c 2 4', 'ring m 2 0 0 0', 'ring k 2 2 0 0', 'ring a 0 0 0 0'])
        self.assertEqual(bench.net.cords, net.cords)
        for value in odd_values() + ['m', 'a', 'z', ('b',), ['b'], 0]:
            refused(self, NoPeg, value, bench.free, value)
        bench.free('b')
        refused(self, Last, 'c', bench.free, 'c')
        refused(self, NoPeg, 'b', bench.free, 'b')
        self.assertEqual(bench.done, 2)

    def test_one_peg_and_eight_rings(self):
        rings = ['ring {} {} 0'.format(name, at + 1) for at, name in enumerate(RINGS)]
        one, two = net_of('net 1', 'peg a 0', *rings), net_of('net 1', 'peg a 0', 'peg b 9', *rings)
        # a lack of other pegs stands first
        refused(self, Last, 'a', Bench(one).free, 'a')
        refused(self, TooMany, 9, Bench(two).free, 'a')
        seven = net_of('net 1', 'peg a 0', 'peg b 9', *rings[1:])
        bench = Bench(seven)
        self.assertEqual(bench.free('b'), ((), ('b',)))
        self.assertEqual(len(bench.net), 8)
        refused(self, Last, 'a', bench.free, 'a')

    def test_nothing_is_changed_by_what_is_refused(self):
        bench = Bench(WORKED)
        for deed in DEEDS:
            do(bench, deed)
        bench.undo()
        bench.undo()
        ahead = whole_state(bench)
        for call, args in ((bench.tie, ('a', 'b')), (bench.cut, (9,)), (bench.move, ('k', ())), (bench.weigh, ('m', 0)),
                           (bench.pin, ('a',)), (bench.free, ('m',)), (bench.keep, ())):
            self.assertRaises(RestError, call, *args)
            self.assertEqual(whole_state(bench), ahead)
        # so what was taken back can be done again
        bench.redo()
        bench.redo()
        refused(self, NothingToRedo, None, bench.redo)
        self.assertEqual(bench.done, 6)

    def test_nets_are_not_changed(self):
        bench, text = Bench(WORKED), WORKED.text
        for deed in DEEDS:
            ahead, told_text = bench.net, bench.net.text
            do(bench, deed)
            self.assertEqual(ahead.text, told_text)
        self.assertEqual((WORKED.text, bench.first.text), (text, text))


class TestUndo(unittest.TestCase):
    def test_over_several_deeds(self):
        chance = random.Random(8)
        for bench in some_benches():
            texts, at, last = [bench.net.text], 0, 0
            for _ in range(40):
                kind = chance.choice(('deed', 'undo', 'undo', 'redo', 'redo', 'refused'))
                if kind == 'deed':
                    deed = random_deed(chance, texts[at])
                    expected = after(texts[at], deed)
                    if isinstance(expected, tuple):
                        self.assertRaises(RestError, do, bench, deed)
                    else:
                        do(bench, deed)
                        texts[at + 1:] = [expected]
                        at, last = at + 1, at + 1
                elif kind == 'undo' and at == 0:
                    refused(self, NothingToUndo, None, bench.undo)
                elif kind == 'undo':
                    self.assertIsNone(bench.undo())
                    at -= 1
                elif kind == 'redo' and at == last:
                    refused(self, NothingToRedo, None, bench.redo)
                elif kind == 'redo':
                    self.assertIsNone(bench.redo())
                    at += 1
                self.assertEqual((bench.net.text, bench.done, bench.first.text), (texts[at], at, texts[0]))
                self.assertEqual(len(journal(bench).split('\n')), 1 + len(texts[0].split('\n')) + at)

    def test_none(self):
        bench = Bench(WORKED)
        refused(self, NothingToUndo, None, bench.undo)
        refused(self, NothingToRedo, None, bench.redo)
        bench.cut(0)
        refused(self, NothingToRedo, None, bench.redo)
        bench.undo()
        refused(self, NothingToUndo, None, bench.undo)
        bench.cut(1)
        refused(self, NothingToRedo, None, bench.redo)

    def test_there_and_back(self):
        for deed in DEEDS:
            bench = Bench(WORKED)
            do(bench, deed)
            behind = state(bench)
            bench.undo()
            self.assertEqual(state(bench), state(Bench(WORKED)))
            bench.redo()
            self.assertEqual(state(bench), behind)


class Stop(Exception):
    """An error of the tests' own."""


class TestTrial(unittest.TestCase):
    def bench(self):
        """A bench with three deeds that stand, and two that are taken back."""
        bench = Bench(WORKED)
        for deed in DEEDS[:5]:
            do(bench, deed)
        bench.undo()
        bench.undo()
        return bench

    def test_left_by_itself(self):
        bench = self.bench()
        ahead = whole_state(bench)
        with bench.trial() as found:
            self.assertIs(found, bench)
            self.assertEqual(bench.cut(0)[0], ())
            bench.undo()
            bench.undo()
            bench.pin('m')
            self.assertEqual(bench.done, 3)
        self.assertEqual(whole_state(bench), ahead)
        with bench.trial():
            bench.redo()
        self.assertEqual(whole_state(bench), ahead)
        with bench.trial():
            while bench.done:
                bench.undo()
        self.assertEqual(whole_state(bench), ahead)

    def test_kept(self):
        bench = self.bench()
        with bench.trial():
            self.assertIsNone(bench.keep())
            bench.cut(0)
            bench.pin('m')
        self.assertEqual(bench.done, 5)
        refused(self, NothingToRedo, None, bench.redo)
        self.assertEqual(journal(bench).split('\n')[-2:], ['cut 0', 'pin m'])
        # one by one
        bench.undo()
        self.assertEqual(journal(bench).split('\n')[-1], 'cut 0')
        with bench.trial():
            for _ in range(4):
                bench.undo()
            bench.keep()
        self.assertEqual((bench.done, bench.net), (0, WORKED))
        for _ in range(5):
            bench.redo()
        refused(self, NothingToRedo, None, bench.redo)

    def test_left_by_an_error(self):
        for keep in (False, True):
            for error in (Stop, KeyboardInterrupt, NoTrial):
                bench = self.bench()
                ahead = whole_state(bench)
                with self.assertRaises(error) as caught:
                    with bench.trial():
                        bench.free('c')
                        if keep:
                            bench.keep()
                        raise error('why')
                self.assertEqual(caught.exception.args, ('why',))
                self.assertEqual(whole_state(bench), ahead)
                refused(self, NoTrial, None, bench.keep)
        bench = self.bench()
        ahead = whole_state(bench)
        with self.assertRaises(Tied):
            with bench.trial():
                bench.free('c')
                bench.tie('a', 'b')
        self.assertEqual(whole_state(bench), ahead)

    def test_an_error_that_stays_within(self):
        bench = self.bench()
        with bench.trial():
            bench.free('c')
            refused(self, Tied, ('a', 'b'), bench.tie, 'a', 'b')
            bench.keep()
        self.assertEqual(bench.done, 4)

    def test_one_within_another(self):
        for inner in (False, True):
            for outer in (False, True):
                for early in (False, True):
                    bench = self.bench()
                    ahead = whole_state(bench)
                    with bench.trial():
                        bench.cut(0)
                        if outer and early:
                            bench.keep()
                        between = whole_state(bench)
                        with bench.trial() as found:
                            self.assertIs(found, bench)
                            bench.undo()
                            bench.undo()
                            bench.pin('m')
                            if inner:
                                bench.keep()
                            inside = whole_state(bench)
                        self.assertEqual(whole_state(bench), inside if inner else between)
                        if outer and not early:
                            bench.keep()
                    self.assertEqual(whole_state(bench), (inside if inner else between) if outer else ahead)
                    refused(self, NoTrial, None, bench.keep)

    def test_an_error_leaves_the_inner_one(self):
        bench = self.bench()
        with bench.trial():
            bench.cut(0)
            between = whole_state(bench)
            with self.assertRaises(Stop):
                with bench.trial():
                    bench.keep()
                    bench.pin('m')
                    raise Stop
            self.assertEqual(whole_state(bench), between)
            bench.keep()
        self.assertEqual(whole_state(bench), between)

    def test_keep_outside(self):
        bench = self.bench()
        refused(self, NoTrial, None, bench.keep)
        with bench.trial():
            bench.keep()
            bench.keep()
        refused(self, NoTrial, None, bench.keep)
        # a block that is not entered is none
        block = bench.trial()
        refused(self, NoTrial, None, bench.keep)
        bench.cut(0)
        ahead = whole_state(bench)
        with block:
            bench.cut(0)
        self.assertEqual(whole_state(bench), ahead)

    def test_undo_and_redo_reach_what_was_ahead(self):
        bench = self.bench()
        with bench.trial():
            bench.redo()
            bench.redo()
            refused(self, NothingToRedo, None, bench.redo)
            for _ in range(5):
                bench.undo()
            refused(self, NothingToUndo, None, bench.undo)
            bench.redo()
            bench.keep()
        self.assertEqual(bench.done, 1)
        for _ in range(4):
            bench.redo()
        self.assertEqual([part.split(' ')[0] for part in journal(bench).split('\n')[-5:]], ['tie', 'cut', 'move', 'weigh', 'pin'])

    def test_at_random(self):
        chance = random.Random(11)
        for bench in some_benches():
            self.play(chance, bench, 0)

    def play(self, chance, bench, deep):
        for _ in range(6):
            kind = chance.choice(('deed', 'deed', 'undo', 'redo', 'block', 'tried'))
            if kind in ('block', 'tried') and deep < 3:
                ahead, keep = whole_state(bench), chance.random() < 0.5
                if kind == 'block':
                    with bench.trial():
                        self.play(chance, bench, deep + 1)
                        inside = whole_state(bench)
                        if keep:
                            bench.keep()
                else:
                    def look(found):
                        self.play(chance, found, deep + 1)
                        return whole_state(found)
                    inside = bench.tried(look, keep=keep)
                self.assertEqual(whole_state(bench), inside if keep else ahead)
            else:
                try:
                    if kind in ('undo', 'redo'):
                        getattr(bench, kind)()
                    else:
                        do(bench, random_deed(chance, bench.net.text))
                except RestError:
                    continue


class TestTried(unittest.TestCase):
    def bench(self):
        return TestTrial.bench(self)

    def test_keep(self):
        for keep, kept in ((True, True), (False, False), (1, False), (None, False), ('yes', False), ([True], False), ((True,), False)):
            bench = self.bench()
            ahead = whole_state(bench)
            self.assertEqual(bench.tried(lambda found: [found is bench, found.cut(0), found.done], keep=keep)[::2], [True, 4])
            inside = self.bench()
            inside.cut(0)
            self.assertEqual(whole_state(bench), whole_state(inside) if kept else ahead)

    def test_without_keep(self):
        bench = self.bench()
        ahead = whole_state(bench)
        self.assertEqual(bench.tried(lambda found: found.pin('m')), ((), ()))
        self.assertEqual(bench.tried(lambda found: found.pin('k')), (('k',), ()))
        self.assertEqual(whole_state(bench), ahead)
        self.assertIsNone(bench.tried(look=lambda found: found.undo()))
        self.assertEqual(whole_state(bench), ahead)
        value = [object()]
        self.assertIs(bench.tried(lambda found: value), value)

    def test_keep_by_name_alone(self):
        bench = self.bench()
        self.assertRaises(TypeError, bench.tried, lambda found: found.cut(0), True)
        self.assertEqual(bench.done, 3)
        bench.tried(keep=True, look=lambda found: found.cut(0))
        self.assertEqual(bench.done, 4)

    def test_look_calls_keep(self):
        for keep in (False, True):
            bench = self.bench()

            def look(found):
                found.cut(0)
                found.keep()
                found.pin('m')
            self.assertIsNone(bench.tried(look, keep=keep))
            self.assertEqual(bench.done, 5)
            refused(self, NoTrial, None, bench.keep)

    def test_look_raises(self):
        for keep in (False, True):
            bench = self.bench()
            ahead = whole_state(bench)

            def look(found):
                found.pin('m')
                found.keep()
                raise Stop('why')
            self.assertRaisesRegex(Stop, 'why', bench.tried, look, keep=keep)
            self.assertEqual(whole_state(bench), ahead)
            refused(self, Tied, ('a', 'b'), bench.tried, lambda found: found.tie('a', 'b'), keep=keep)
            self.assertEqual(whole_state(bench), ahead)
            refused(self, NoTrial, None, bench.keep)

    def test_look_calls_tried_and_trial(self):
        for inner in (False, True):
            for outer in (False, True):
                bench = self.bench()

                def look(found):
                    found.cut(0)
                    found.tried(lambda again: again.pin('m'), keep=inner)
                    with found.trial():
                        found.undo()
                    return found.done
                self.assertEqual(bench.tried(look, keep=outer), 4 + inner)
                self.assertEqual(bench.done, 3 + (1 + inner) * outer)

    def test_keep_belongs_to_the_innermost_block(self):
        bench = self.bench()
        with bench.trial():
            bench.tried(lambda found: (found.cut(0), found.keep()))
            self.assertEqual(bench.done, 4)
        self.assertEqual(bench.done, 3)


class TestCopies(unittest.TestCase):
    def test_independent(self):
        bench = TestTrial.bench(self)
        other = bench.copy()
        self.assertIs(type(other), Bench)
        self.assertEqual(whole_state(other), whole_state(bench))
        ahead = whole_state(bench)
        other.undo()
        other.cut(0)
        self.assertEqual(whole_state(bench), ahead)
        behind = whole_state(other)
        bench.redo()
        bench.redo()
        bench.free('c')
        self.assertEqual(whole_state(other), behind)

    def test_what_is_taken_back_can_be_done_again(self):
        other = TestTrial.bench(self).copy()
        other.redo()
        other.redo()
        refused(self, NothingToRedo, None, other.redo)
        self.assertEqual(other.done, 5)

    def test_within_a_block(self):
        bench = TestTrial.bench(self)
        with bench.trial():
            bench.cut(0)
            other = bench.copy()
            refused(self, NoTrial, None, other.keep)
            inside = whole_state(bench)
            other.undo()
            self.assertEqual(whole_state(bench), inside)
            other.redo()
            with other.trial():
                other.pin('m')
            # the copy's block has ended, the bench's has not
            refused(self, NoTrial, None, other.keep)
        self.assertEqual(bench.done, 3)
        self.assertEqual(whole_state(other), inside)
        with bench.trial():
            with other.trial():
                bench.keep()
                bench.pin('m')
                other.undo()
        self.assertEqual((bench.done, other.done), (4, 4))


class TestEqual(unittest.TestCase):
    def test_by_journals(self):
        bench, other = Bench(WORKED), Bench(Net(WORKED.text))
        self.assertTrue(bench == other)
        self.assertFalse(bench != other)
        for deed in DEEDS[:5]:
            do(bench, deed)
            self.assertFalse(bench == other)
            self.assertTrue(bench != other)
            do(other, deed)
            self.assertTrue(bench == other)
        # what can be done again does not count
        bench.undo()
        other.undo()
        other.undo()
        other.weigh('m', (ONE, (-1, 2)))
        self.assertTrue(bench == other)
        other.undo()
        self.assertFalse(bench == other)

    def test_unlike_journals_of_one_net(self):
        # the nets are equal, but not what was done
        one, other = Bench(WORKED), Bench(WORKED)
        one.weigh('m', (NONE, NONE))
        self.assertEqual(one.net, other.net)
        self.assertTrue(one != other)
        fewer = Bench(Net(WORKED.text.replace('\ncord k m', '')))
        fewer.tie('k', 'm')
        self.assertEqual(fewer.net, other.net)
        self.assertTrue(fewer != other)

    def test_nothing_else(self):
        bench = Bench(WORKED)
        for value in odd_values() + [WORKED, WORKED.text, journal(bench), (bench,), [bench]]:
            self.assertIs(bench == value, False)
            self.assertIs(bench != value, True)
            self.assertIs(value == bench, False)
        self.assertIs(bench == bench.copy(), True)
        self.assertIs((bench, 1) == (bench.copy(), 1), True)


class TestBounds(unittest.TestCase):
    def test_each_at_bounds(self):
        for net in (full_stairs(2), full_stairs(3), grid_net(2), bound_net(1), bound_net(3)):
            bench = Bench(net)
            self.assertEqual((len(net.pegs), len(net.rings), len(net.cords)), (16, 8, 20))
            for cord in (19, 7, 0):
                ahead = bench.net
                gone = tuple(ring for ring in held(ahead) if ring not in held(without(ahead, cord)))
                self.assertEqual(bench.cut(cord), ((), gone))
            row = tuple((7 * at + 1, 59) for at in range(net.coords))
            for ring in net.rings:
                bench.move(ring, row)
                bench.weigh(ring, row)
                bench.undo()
                bench.undo()
            self.assertEqual(bench.tried(lambda found: found.done), 3)
            for _ in range(3):
                bench.undo()
            self.assertEqual(bench, Bench(net))
            refused(self, TooMany, 17, bench.pin, net.rings[0])
            refused(self, TooMany, 9, bench.free, net.pegs[0])
            self.assertEqual(bench.copy(), bench)


if __name__ == '__main__':
    unittest.main()
