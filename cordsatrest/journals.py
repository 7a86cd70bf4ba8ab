"""Journals: the texts of benches, and benches read from them."""

from cordsatrest.bench import Bench, do_deed, journal_of
from cordsatrest.deeds import begins_deed, read_deed
from cordsatrest.errors import BadJournal, BadNet, RestError
from cordsatrest.nets import Net


def journal(bench):
    """The bench's journal: the net with which it began, and the deeds that stand."""
    return journal_of(bench)


def end_of_net(lines):
    """How many lines stand ahead of the first one, behind the line `bench`, that begins with the word of a deed."""
    for at in range(1, len(lines)):
        if begins_deed(lines[at]):
            return at
    return len(lines)


def net_in(lines):
    """The net of these lines, which stand behind the line `bench`."""
    try:
        return Net("\n".join(lines))
    except BadNet as error:
        raise BadJournal(error.value + 1) from None


def do_line(bench, number, line):
    """Do the deed that a line of a journal tells."""
    deed = read_deed(line)
    if deed is None:
        raise BadJournal(number)
    try:
        do_deed(bench, deed)
    except RestError:
        raise BadJournal(number) from None


def read_journal(text):
    """The bench that a journal tells."""
    if not isinstance(text, str):
        raise BadJournal(0)
    lines = text.split("\n")
    if lines[0] != "bench":
        raise BadJournal(1)
    end = end_of_net(lines)
    bench = Bench(net_in(lines[1:end]))
    for at in range(end, len(lines)):
        do_line(bench, at + 1, lines[at])
    return bench
