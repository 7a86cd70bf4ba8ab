"""A desk: a bench that is worked on, and asked about, by lines of words."""

from cordsatrest.bench import do_deed
from cordsatrest.broken import lasting, needed, spare
from cordsatrest.deeds import read_deed
from cordsatrest.errors import BadWords
from cordsatrest.hanging import does_hang
from cordsatrest.journals import read_journal
from cordsatrest.lots import does_stay, lots
from cordsatrest.rounds import held, round_of


def listed(parts):
    """The names or numbers, parted by a blank; `-` for none."""
    return " ".join([str(part) for part in parts]) if parts else "-"


def yes_or_no(told):
    """The word for a bool."""
    return "yes" if told else "no"


def tell_deed(bench, deed):
    """Do a deed, and tell what comes and goes."""
    come, gone = do_deed(bench, deed)
    return f"come {listed(come)}; gone {listed(gone)}"


def tell_undo(bench):
    """Take the last deed back."""
    bench.undo()
    return "ok"


def tell_redo(bench):
    """Do the last deed again that was taken back."""
    bench.redo()
    return "ok"


def tell_net(bench):
    """The lines of the net."""
    return "; ".join(bench.net.text.split("\n"))


def tell_held(bench):
    """The held rings."""
    return listed(held(bench.net))


def tell_hangs(bench):
    """Whether the net hangs."""
    return yes_or_no(does_hang(bench.net))


def tell_lots(bench):
    """The lots."""
    return "; ".join([listed(part) for part in lots(bench.net)])


def tell_lasting(bench):
    """The rings that are held whichever one cord breaks."""
    return listed(lasting(bench.net))


def tell_spare(bench):
    """The cords that can be spared."""
    return listed(spare(bench.net))


def tell_round(bench, name):
    """The number of the round that reaches a ring."""
    number = round_of(bench.net, name)
    return "-" if number is None else str(number)


def tell_stays(bench, name):
    """Whether a ring is in its place in every hanging."""
    return yes_or_no(does_stay(bench.net, name))


def tell_needed(bench, name):
    """The cords that a ring needs."""
    return listed(needed(bench.net, name))


ALONE = {
    "undo": tell_undo,
    "redo": tell_redo,
    "net": tell_net,
    "held": tell_held,
    "hangs": tell_hangs,
    "lots": tell_lots,
    "lasting": tell_lasting,
    "spare": tell_spare,
}
NAMED = {
    "round": tell_round,
    "stays": tell_stays,
    "needed": tell_needed,
}


def answer_to(bench, words):
    """The answer to the words of a question, None if they are none."""
    if len(words) == 1 and words[0] in ALONE:
        tell = ALONE[words[0]]
        return tell(bench)
    if len(words) == 2 and words[0] in NAMED and words[1] != "":
        tell_of = NAMED[words[0]]
        return tell_of(bench, words[1])
    return None


class Desk:
    """A bench, and what is said to it."""

    def __init__(self, text):
        self.bench = read_journal(text)

    def say(self, line):
        """Do what a line tells, or answer what it asks."""
        if not isinstance(line, str) or "\n" in line:
            raise BadWords(line)
        deed = read_deed(line)
        if deed is not None:
            return tell_deed(self.bench, deed)
        told = answer_to(self.bench, line.split(" "))
        if told is None:
            raise BadWords(line)
        return told
