"""Weighing: which weights a picture that hangs tells of."""

from cordsatrest.balance import free_cords, stretch_at
from cordsatrest.edges import edges, lowered_once, outermost
from cordsatrest.errors import BadDirection, TooWide
from cordsatrest.ratios import divided, is_noughts, is_row, minus, noughts, row_times, times, whole
from cordsatrest.rounds import loose_rings
from cordsatrest.words import fits

MOST_WIDE = 12


def weights_at(net, cord, loose):
    """The row of weights with which a pull of 1 in this cord alone balances at all loose rings."""
    found = []
    for ring in loose:
        if ring in net.cords[cord]:
            found.append(row_times(stretch_at(net, cord, ring), (-1, 1)))
        else:
            found.append(noughts(net.coords))
    return tuple(found)


def cord_rows(net):
    """For each cord the row of weights with which a pull of 1 in it alone balances at all loose rings."""
    loose = loose_rings(net)
    return tuple([weights_at(net, cord, loose) for cord in range(len(net.cords))])


def weight_rows(net):
    """All least rows of weights: the net hangs with all their sums, and with no other weights at its loose rings."""
    loose = loose_rings(net)
    rows = []
    for cord in free_cords(net, loose):
        rows.append(whole([part for row in weights_at(net, cord, loose) for part in row])[0])
    found = []
    for row in outermost(lowered_once(rows)):
        parts = [(part, 1) for part in row]
        found.append(tuple([tuple(parts[at:at + net.coords]) for at in range(0, len(parts), net.coords)]))
    return tuple(sorted(found))


def is_direction(net, value):
    """Whether any value is a direction: a row that is not noughts alone, of fractions that a net's text can have."""
    return is_row(value, net.coords) and all([fits(part) for part in value]) and not is_noughts(value)


def along(weights, direction):
    """(sides, numbers): for each ring how many times the direction its weight is, and what is left beside that."""
    straight = [at for at, part in enumerate(direction) if part[0] != 0][0]
    sides, numbers = [], []
    for weight in weights:
        number = divided(weight[straight], direction[straight])
        numbers.append(number)
        for at, part in enumerate(weight):
            if at != straight:
                sides.append(minus(part, times(number, direction[at])))
    return sides, numbers


def told_back(net, direction):
    """All least rows of numbers: so many times the direction as weights of the loose rings, the net hangs."""
    if not is_direction(net, direction):
        raise BadDirection(direction)
    loose = loose_rings(net)
    cords = free_cords(net, loose)
    if len(cords) > MOST_WIDE:
        raise TooWide(len(cords))
    columns = []
    for cord in cords:
        sides, numbers = along(weights_at(net, cord, loose), direction)
        columns.append(whole(sides + numbers)[0])
    many = len(loose)
    height = many * net.coords
    # pulls balance to the sides, and bear a number from 0 on at each loose ring
    rows = [row[len(row) - many:] for row in edges(columns, height, height - many)]
    return tuple(sorted([tuple([(part, 1) for part in row]) for row in outermost(lowered_once(rows))]))
