"""Changes: nets made of nets."""

from cordsatrest.balance import stretch_at
from cordsatrest.cones import solved
from cordsatrest.drafts import MOST_CORDS, MOST_PEGS
from cordsatrest.errors import (
    BadKept, BadTable, Beyond, NoRing, NotStraight, Tied, Together, TooMany, Unlike, Weighed,
)
from cordsatrest.nets import are_tied, cords_at, far_end, is_ring, place_of, weight_of
from cordsatrest.ratios import is_integer, is_noughts, is_row, row_product, row_sum, square, times, whole
from cordsatrest.rounds import held
from cordsatrest.words import fits
from cordsatrest.writing import net_of_parts, peg_parts, ring_parts

MOST_TABLE_ROWS = 3


def must_fit(pegs, rings):
    """Refuse the first fraction, as a text would have them, that no text of a net can have."""
    rows = [place for _, place in pegs] + [place + weight for _, place, weight in rings]
    for row in rows:
        for part in row:
            if not fits(part):
                raise Beyond(part)


def cords_beside(cords, pegs):
    """Those of the cords that join no two of these pegs, in sequence."""
    return [(one, other) for one, other in cords if one not in pegs or other not in pegs]


def cut_off(net):
    """The net whose held rings are pegs, without the cords that join two pegs then."""
    fast = held(net)
    pegs = net.pegs + fast
    if len(pegs) > MOST_PEGS:
        raise TooMany(len(pegs))
    rings = [part for part in ring_parts(net) if part[0] not in fast]
    places = [(peg, place_of(net, peg)) for peg in pegs]
    return net_of_parts(net.coords, places, rings, cords_beside(net.cords, pegs))


def is_straight(net, ring):
    """Whether a ring has just two cords, and lies on the straight way between their other ends."""
    cords = cords_at(net, ring)
    if len(cords) != 2:
        return False
    one, other = stretch_at(net, cords[0], ring), stretch_at(net, cords[1], ring)
    product = row_product(one, other)
    # two ways are as long together as they are only if they lie along one line
    return product[0] < 0 and times(product, product) == times(square(one), square(other))


def left_out(net, ring):
    """The net without a ring that lies straight between two ends, which one cord joins in its place."""
    if not is_ring(net, ring):
        raise NoRing(ring)
    if not is_noughts(weight_of(net, ring)):
        raise Weighed(ring)
    if not is_straight(net, ring):
        raise NotStraight(ring)
    first, second = cords_at(net, ring)
    one, other = far_end(net, first, ring), far_end(net, second, ring)
    if (one in net.pegs and other in net.pegs) or are_tied(net, one, other):
        raise Tied((one, other))
    cords = list(net.cords)
    cords[first] = (one, other)
    del cords[second]
    rings = [part for part in ring_parts(net) if part[0] != ring]
    return net_of_parts(net.coords, peg_parts(net), rings, cords)


def is_table(net, value):
    """Whether any value is a table by which no row of the net's coordinates but noughts goes to noughts."""
    if not isinstance(value, tuple) or not 1 <= len(value) <= MOST_TABLE_ROWS:
        return False
    if not all([is_row(row, net.coords) for row in value]):
        return False
    done, _ = solved([whole(row)[0] for row in value], net.coords)
    return len(done) == net.coords


def products_with(table, row):
    """The row of the products of a row with those of the table."""
    return tuple([row_product(line, row) for line in table])


def mapped(net, table):
    """The net whose places and weights go to their products with the rows of the table."""
    if not is_table(net, table):
        raise BadTable(table)
    pegs = [(peg, products_with(table, place)) for peg, place in peg_parts(net)]
    rings = []
    for ring, place, weight in ring_parts(net):
        rings.append((ring, products_with(table, place), products_with(table, weight)))
    must_fit(pegs, rings)
    return net_of_parts(len(table), pegs, rings, net.cords)


def are_kept(net, value):
    """Whether any value is an ascending tuple of numbers of coordinates, one at least."""
    if not isinstance(value, tuple) or not value or not all([is_integer(part) for part in value]):
        return False
    ascending = all([one < other for one, other in zip(value, value[1:])])
    return ascending and value[0] >= 0 and value[-1] < net.coords


def parts_at(row, kept):
    """The row of these coordinates alone."""
    return tuple([row[at] for at in kept])


def shadow(net, kept):
    """The net seen from the side: of all its places and weights these coordinates alone."""
    if not are_kept(net, kept):
        raise BadKept(kept)
    for cord, (one, other) in enumerate(net.cords):
        if parts_at(place_of(net, one), kept) == parts_at(place_of(net, other), kept):
            raise Together(cord)
    pegs = [(peg, parts_at(place, kept)) for peg, place in peg_parts(net)]
    rings = [(ring, parts_at(place, kept), parts_at(weight, kept)) for ring, place, weight in ring_parts(net)]
    return net_of_parts(len(kept), pegs, rings, net.cords)


def are_like(net, other):
    """Whether two nets have the same coordinates, pegs and rings at the same places, in the same sequences."""
    if (net.coords, net.pegs, net.rings) != (other.coords, other.pegs, other.rings):
        return False
    return all([place_of(net, name) == place_of(other, name) for name in net.pegs + net.rings])


def joined(net, other):
    """The net with the cords of both, and with the sums of both nets' weights."""
    if not are_like(net, other):
        raise Unlike(other)
    cords = net.cords + tuple([(one, far) for one, far in other.cords if not are_tied(net, one, far)])
    if len(cords) > MOST_CORDS:
        raise TooMany(len(cords))
    pegs = peg_parts(net)
    rings = [(ring, place, row_sum(weight, weight_of(other, ring))) for ring, place, weight in ring_parts(net)]
    must_fit(pegs, rings)
    return net_of_parts(net.coords, pegs, rings, cords)
