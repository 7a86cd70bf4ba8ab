"""Straight: nets of one coordinate, where all that can fall, or rise, can do so by one way."""

from cordsatrest.errors import BadWay, NoLine, NoRing
from cordsatrest.hanging import does_hang, hangs
from cordsatrest.nets import is_ring, place_of, weight_of
from cordsatrest.ratios import NOUGHT, ONE, divided, is_less, minus, plus


def must_be_line(net):
    """Refuse a net that does not lie on a line."""
    if net.coords != 1:
        raise NoLine(net.coords)


def height_of(net, name):
    """The only coordinate of a peg's or a ring's place."""
    return place_of(net, name)[0]


def rising_cords(net):
    """(lower end, upper end) for each cord, as they stand."""
    found = []
    for one, other in net.cords:
        rises = is_less(height_of(net, one), height_of(net, other))
        found.append((one, other) if rises else (other, one))
    return found


def way_to_peg(net, start, pairs):
    """Names from this ring on to a peg, each one and the next one such a pair; None if there are none."""
    ways, left = {start: (start,)}, [start]
    while left:
        name = left.pop()
        if name in net.pegs:
            return ways[name]
        for near, far in pairs:
            if near == name and far not in ways:
                ways[far] = ways[name] + (far,)
                left.append(far)
    return None


def rising(net, ring):
    """A rising way that goes by this ring; None if there is none."""
    must_be_line(net)
    if not is_ring(net, ring):
        raise NoRing(ring)
    pairs = rising_cords(net)
    up = way_to_peg(net, ring, pairs)
    down = way_to_peg(net, ring, [(upper, lower) for lower, upper in pairs])
    return None if up is None or down is None else down[::-1] + up[1:]


def is_way(net, value):
    """Whether any value is a rising way of the net."""
    if not isinstance(value, tuple) or len(value) < 3 or value[0] not in net.pegs or value[-1] not in net.pegs:
        return False
    pairs = rising_cords(net)
    between = all([name in net.rings for name in value[1:-1]])
    return between and all([pair in pairs for pair in zip(value, value[1:])])


def shows_rising(net, ring, value):
    """Whether any value is right as what rising tells."""
    own = rising(net, ring)
    if own is None:
        return value is None
    return is_way(net, value) and ring in value


def way_pulls(net, way):
    """The pulls that are 1 by the cord's length along a rising way, 0 elsewhere: they balance at every ring."""
    must_be_line(net)
    if not is_way(net, way):
        raise BadWay(way)
    steps = list(zip(way, way[1:]))
    found = []
    for lower, upper in rising_cords(net):
        length = minus(height_of(net, upper), height_of(net, lower))
        found.append(divided(ONE, length) if (lower, upper) in steps else NOUGHT)
    return tuple(found)


def are_heavy(net, side, rings):
    """Whether these rings draw to this side together, and nothing keeps them from it."""
    total = NOUGHT
    for ring in rings:
        total = plus(total, weight_of(net, ring)[0])
    if side == "down":
        return total[0] < 0 and all([upper in rings for lower, upper in rising_cords(net) if lower in rings])
    return total[0] > 0 and all([lower in rings for lower, upper in rising_cords(net) if upper in rings])


def heavy(net):
    """(side, rings) that fall, or rise, together; None if the net hangs.

    Moves that raise the score take part after part further down, or up: those that go so far at least, or
    further, are never kept by the others, and not all these parts can weigh against it.
    """
    must_be_line(net)
    told = hangs(net)
    if told[0] == "pulls":
        return None
    shifts = [row[0] for row in told[1]]
    found = []
    for bound in shifts:
        if bound[0] < 0:
            down = [ring for ring, shift in zip(net.rings, shifts) if not is_less(bound, shift)]
            found.append(("down", tuple(down)))
        elif bound[0] > 0:
            up = [ring for ring, shift in zip(net.rings, shifts) if not is_less(shift, bound)]
            found.append(("up", tuple(up)))
    return [part for part in found if are_heavy(net, part[0], part[1])][0]


def shows_heavy(net, value):
    """Whether any value is right as what heavy tells."""
    must_be_line(net)
    if value is None:
        return does_hang(net)
    if not isinstance(value, tuple) or len(value) != 2 or value[0] not in ("down", "up"):
        return False
    side, rings = value
    if not isinstance(rings, tuple) or rings != tuple([ring for ring in net.rings if ring in rings]):
        return False
    # no rings at all are never heavy
    return are_heavy(net, side, rings)
