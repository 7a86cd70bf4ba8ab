"""A bench: a net under hands, whose deeds can be undone, done again and tried."""

from cordsatrest.deeds import deed_line, net_after
from cordsatrest.errors import NoTrial, NothingToRedo, NothingToUndo
from cordsatrest.rounds import held


def fast_names(net):
    """The names of all that stands fast: the pegs, and the held rings behind them."""
    return net.pegs + held(net)


def do_deed(bench, deed):
    """Do a deed on a bench: (come, gone), the names that stand fast behind it alone, or ahead of it alone."""
    ahead = bench.net
    behind = net_after(ahead, deed)
    stood, stand = fast_names(ahead), fast_names(behind)
    bench._steps = bench._steps[:bench.done] + ((deed, behind),)
    bench.done += 1
    bench.net = behind
    come = tuple([name for name in stand if name not in stood])
    return come, tuple([name for name in stood if name not in stand])


def journal_of(bench):
    """The bench's journal: the net with which it began, and the deeds that stand."""
    deeds = [deed_line(deed) for deed, _ in bench._steps[:bench.done]]
    return "\n".join(["bench", bench.first.text] + deeds)


class Trial:
    """A block behind which a bench is as it was when the block was entered, unless it is kept."""

    def __init__(self, bench):
        self.bench = bench
        self.kept = None

    def __enter__(self):
        bench = self.bench
        self.outer = bench._block
        self.net = bench.net
        self.done = bench.done
        self.steps = bench._steps
        bench._block = self
        return bench

    def __exit__(self, kind, value, trace):
        bench = self.bench
        bench._block = self.outer
        if kind is not None or self.kept is None:
            bench.net = self.net
            bench.done = self.done
            bench._steps = self.steps


class Bench:
    """A net under hands.

    Steps are pairs of a deed and the net behind it: first those that stand, then those that can be done again.
    """

    def __init__(self, net):
        self.net = net
        self.first = net
        self.done = 0
        self._steps = ()
        self._block = None

    def __eq__(self, other):
        return isinstance(other, Bench) and journal_of(self) == journal_of(other)

    def tie(self, one, other):
        """Put a cord between two names."""
        return do_deed(self, ("tie", one, other))

    def cut(self, cord):
        """Take a cord out."""
        return do_deed(self, ("cut", cord))

    def move(self, ring, place):
        """Lay a ring to another place."""
        return do_deed(self, ("move", ring, place))

    def weigh(self, ring, weight):
        """Give a ring another weight."""
        return do_deed(self, ("weigh", ring, weight))

    def pin(self, ring):
        """Make a ring a peg."""
        return do_deed(self, ("pin", ring))

    def free(self, peg):
        """Make a peg a ring."""
        return do_deed(self, ("free", peg))

    def undo(self):
        """Take the last deed back that stands."""
        if self.done == 0:
            raise NothingToUndo(None)
        self.done -= 1
        self.net = self._steps[self.done - 1][1] if self.done > 0 else self.first

    def redo(self):
        """Do the deed again that was taken back last."""
        if self.done == len(self._steps):
            raise NothingToRedo(None)
        self.net = self._steps[self.done][1]
        self.done += 1

    def trial(self):
        """A block behind which the bench is as it was, unless keep is called in it."""
        return Trial(self)

    def keep(self):
        """Let the deeds of the innermost block stand."""
        block = self._block
        if block is None:
            raise NoTrial(None)
        block.kept = True

    def tried(self, look, *, keep=False):
        """What look returns for the bench, within a block that is kept if keep is True."""
        with self.trial() as bench:
            told = look(bench)
            if keep is True:
                bench.keep()
        return told

    def copy(self):
        """An independent bench, alike in all things, outside of all blocks."""
        other = Bench(self.first)
        other.net = self.net
        other.done = self.done
        other._steps = self._steps
        return other
