"""Where pulls balance without weights, and which pulls can."""

from math import lcm

from cordsatrest.cones import lowered, parted
from cordsatrest.nets import cords_at, place_of
from cordsatrest.ratios import NOUGHT, is_noughts, noughts, row_less, row_sum, row_times


def stretch_at(net, cord, name):
    """The way from this end of a cord to its other one, as drawn."""
    one, other = net.cords[cord]
    far = other if name == one else one
    return row_less(place_of(net, far), place_of(net, name))


def drawn_at(net, pulls, ring):
    """The sum, over all cords of a ring, of pull times stretch there."""
    total = noughts(net.coords)
    for cord in cords_at(net, ring):
        total = row_sum(total, row_times(stretch_at(net, cord, ring), pulls[cord]))
    return total


def balance_at(net, pulls, rings):
    """Whether pulls balance without weights at all these rings."""
    return all([is_noughts(drawn_at(net, pulls, ring)) for ring in rings])


def free_cords(net, free):
    """The numbers of all cords with an end that is a free ring."""
    return [cord for cord, ends in enumerate(net.cords) if ends[0] in free or ends[1] in free]


def whole_column(net, cord, free):
    """(column, factor): what a pull of factor in this cord draws at the free rings, in integers."""
    parts = []
    for ring in free:
        parts.extend(stretch_at(net, cord, ring) if ring in net.cords[cord] else noughts(net.coords))
    factor = 1
    for part in parts:
        factor = lcm(factor, part[1])
    return [part[0] * (factor // part[1]) for part in parts], factor


def rows_for_rings(net, free, parts):
    """The integers, in sequence, as rows of the free rings; noughts for all other rings."""
    rows, at = [], 0
    for ring in net.rings:
        if ring in free:
            rows.append(tuple([(part, 1) for part in parts[at:at + net.coords]]))
            at += net.coords
        else:
            rows.append(noughts(net.coords))
    return tuple(rows)


def most_pulls(net, free):
    """(pulls, moves): pulls balance at the free rings, and pull all their cords that any such pulls pull.

    Cords without a free ring are at 0. Moves put nothing but free rings; they shorten, at first, each cord
    of these that is not pulled, and leave those that are pulled as long as they are.
    """
    cords = free_cords(net, free)
    pairs = [whole_column(net, cord, free) for cord in cords]
    amounts, row = parted([column for column, _ in pairs], len(free) * net.coords)
    whole = lowered([amount * factor for amount, (_, factor) in zip(amounts, pairs)])
    pulls = [NOUGHT] * len(net.cords)
    for cord, pull in zip(cords, whole):
        pulls[cord] = (pull, 1)
    return tuple(pulls), rows_for_rings(net, free, row)
