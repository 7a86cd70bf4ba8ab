"""Deeds: what hands do to a net, each told as a tuple of its word and what it is done with, and as a line."""

from cordsatrest.broken import without
from cordsatrest.changes import cords_beside
from cordsatrest.checks import is_written_row
from cordsatrest.drafts import MOST_CORDS, MOST_PEGS, MOST_RINGS
from cordsatrest.errors import BadPlace, BadWeight, Last, NoName, NoPeg, NoRing, Tied, Together, TooMany
from cordsatrest.nets import are_tied, cords_at, far_end, is_name_of, is_peg, is_ring, place_of
from cordsatrest.ratios import noughts
from cordsatrest.words import read_fraction, read_integer
from cordsatrest.writing import line_of, net_of_parts, peg_parts, ring_parts


def after_tie(net, one, other):
    """The net with one more cord."""
    for name in (one, other):
        if not is_name_of(net, name):
            raise NoName(name)
    can_tie = is_ring(net, one) or is_ring(net, other)
    if not can_tie or place_of(net, one) == place_of(net, other) or are_tied(net, one, other):
        raise Tied((one, other))
    if len(net.cords) >= MOST_CORDS:
        raise TooMany(len(net.cords) + 1)
    return net_of_parts(net.coords, peg_parts(net), ring_parts(net), net.cords + ((one, other),))


def after_cut(net, cord):
    """The net that lacks this cord."""
    return without(net, cord)


def after_move(net, ring, place):
    """The net with this ring at another place."""
    if not is_ring(net, ring):
        raise NoRing(ring)
    if not is_written_row(net, place):
        raise BadPlace(place)
    for cord in cords_at(net, ring):
        if place_of(net, far_end(net, cord, ring)) == place:
            raise Together(cord)
    rings = [(name, place if name == ring else own, weight) for name, own, weight in ring_parts(net)]
    return net_of_parts(net.coords, peg_parts(net), rings, net.cords)


def after_weigh(net, ring, weight):
    """The net with another weight at this ring."""
    if not is_ring(net, ring):
        raise NoRing(ring)
    if not is_written_row(net, weight):
        raise BadWeight(weight)
    rings = [(name, place, weight if name == ring else own) for name, place, own in ring_parts(net)]
    return net_of_parts(net.coords, peg_parts(net), rings, net.cords)


def after_pin(net, ring):
    """The net with this ring as a peg."""
    if not is_ring(net, ring):
        raise NoRing(ring)
    if len(net.pegs) >= MOST_PEGS:
        raise TooMany(len(net.pegs) + 1)
    pegs = peg_parts(net) + [(ring, place_of(net, ring))]
    rings = [part for part in ring_parts(net) if part[0] != ring]
    return net_of_parts(net.coords, pegs, rings, cords_beside(net.cords, net.pegs + (ring,)))


def after_free(net, peg):
    """The net with this peg as a ring without a weight."""
    if not is_peg(net, peg):
        raise NoPeg(peg)
    if len(net.pegs) == 1:
        raise Last(peg)
    if len(net.rings) >= MOST_RINGS:
        raise TooMany(len(net.rings) + 1)
    pegs = [part for part in peg_parts(net) if part[0] != peg]
    rings = ring_parts(net) + [(peg, place_of(net, peg), noughts(net.coords))]
    return net_of_parts(net.coords, pegs, rings, net.cords)


AFTER = {
    "tie": after_tie,
    "cut": after_cut,
    "move": after_move,
    "weigh": after_weigh,
    "pin": after_pin,
    "free": after_free,
}


def net_after(net, deed):
    """The net behind a deed; the error that refuses it, where one does."""
    word, *rest = deed
    after = AFTER[word]
    return after(net, *rest)


def begins_deed(line):
    """Whether the first word of a line is that of a deed."""
    return line.split(" ")[0] in AFTER


def read_rest(word, rest):
    """What a deed with this word is done with, by the further words of its line; None if they have no such form."""
    if word == "cut":
        numbers = [read_integer(part) for part in rest]
        return None if len(rest) != 1 or None in numbers else numbers
    if word in ("move", "weigh"):
        row = [read_fraction(part) for part in rest[1:]]
        return None if not row or None in row else [rest[0], tuple(row)]
    return rest if len(rest) == (2 if word == "tie" else 1) else None


def read_deed(line):
    """The deed that a line tells, None if the line has no such form."""
    word, *rest = line.split(" ")
    if word not in AFTER or "" in rest:
        return None
    told = read_rest(word, rest)
    return None if told is None else (word, *told)


def deed_line(deed):
    """The line of a deed."""
    word, *rest = deed
    if word in ("move", "weigh"):
        return line_of([word, rest[0]], rest[1])
    return " ".join([word] + [str(part) for part in rest])
