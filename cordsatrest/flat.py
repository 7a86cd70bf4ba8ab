"""Flat nets: their rim, their lands, and stresses: pulls and pushes that balance at every ring."""

from cordsatrest.balance import balance_at, column_at, singles
from cordsatrest.borders import cord_steps, land_pairs, rim_numbers, rim_steps, spots_of, steps_in, walks
from cordsatrest.cones import solved
from cordsatrest.errors import BadSpot, NotFlat
from cordsatrest.plane import are_crossed, lies_on, side
from cordsatrest.ratios import NOUGHT, ONE, is_less, is_row, ratio, whole
from cordsatrest.webs import PEGS, knots_from


def are_within(net, spots):
    """Whether all rings lie strictly within the rim."""
    steps = rim_steps(net)
    rings = spots[len(net.pegs):]
    return all([side(spots[one], spots[other], ring) > 0 for one, other in steps for ring in rings])


def are_clear(net, spots):
    """Whether no cord goes through a further place, and no two of them cross.

    Cords with a further point in common touch or overlap where one of them ends, if they do not cross.
    """
    steps = cord_steps(net)
    for one, other in steps:
        further = [spot for at, spot in enumerate(spots) if at not in (one, other)]
        if any([lies_on(spots[one], spots[other], spot) for spot in further]):
            return False
    ways = [(spots[one], spots[other]) for one, other in steps]
    return not any([are_crossed(way, far) for at, way in enumerate(ways) for far in ways[:at]])


def lead_to_pegs(net):
    """Whether from each ring a way of cords leads to a peg."""
    tied = knots_from(net, (ONE,) * len(net.cords), PEGS)
    return all([ring in tied for ring in net.rings])


def is_flat(net):
    """Whether the net is flat."""
    if net.coords != 2 or len(net.pegs) < 3:
        return False
    spots = spots_of(net)
    if len(set(spots)) < len(spots) or rim_numbers(net) is None:
        return False
    return are_within(net, spots) and are_clear(net, spots) and lead_to_pegs(net)


def must_be_flat(net):
    """Refuse a net that is not flat."""
    if not is_flat(net):
        raise NotFlat(None)


def rim(net):
    """The names of the pegs, against the clock, beginning with the first one."""
    must_be_flat(net)
    return tuple([net.pegs[number] for number in rim_numbers(net)])


def lands(net):
    """The round walks of the lands."""
    must_be_flat(net)
    names = net.pegs + net.rings
    return tuple([tuple([names[number] for number in walk]) for walk in walks(net)])


def sides(net):
    """For each cord the numbers of the lands at its left and at its right."""
    must_be_flat(net)
    return tuple(land_pairs(net))


def is_spot(value):
    """Whether any value is a spot."""
    return is_row(value, 2)


def times_round(ways, spot):
    """How often these ways, each a pair of spots, lead around a spot on none of them, against the clock."""
    found = 0
    for one, other in ways:
        low, high = not is_less(spot[1], one[1]), not is_less(spot[1], other[1])
        if low and not high and side(one, other, spot) > 0:
            found += 1
        elif high and not low and side(one, other, spot) < 0:
            found -= 1
    return found


def is_in_land(ways, spot):
    """Whether a spot lies in a land, or at its border; ways: the pairs of spots along which its walk goes."""
    if any([lies_on(one, other, spot) for one, other in ways]):
        return True
    return times_round(ways, spot) > 0


def lands_round(net, spot):
    """The numbers of the lands of a flat net in which a spot lies, or at whose border."""
    spots, found = spots_of(net), []
    for number, walk in enumerate(walks(net)):
        if is_in_land([(spots[one], spots[other]) for one, other in steps_in(walk)], spot):
            found.append(number)
    return tuple(found)


def lands_at(net, spot):
    """The numbers of the lands in which a spot lies, or at whose border: none outside of the rim."""
    must_be_flat(net)
    if not is_spot(spot):
        raise BadSpot(spot)
    return lands_round(net, spot)


def balances(net, value):
    """Whether any value is a stress of a flat net."""
    return is_row(value, len(net.cords)) and balance_at(net, value, singles(net.rings))


def is_stress(net, value):
    """Whether any value is a stress: a fraction for each cord, so that all of them balance at every ring."""
    must_be_flat(net)
    return balances(net, value)


def stress_along(rows, places, free, width):
    """What fulfils the solved equations with 1 at this free place, and 0 at all other free ones."""
    found = [NOUGHT] * width
    found[free] = ONE
    for row, at in zip(rows, places):
        found[at] = ratio(-row[free], row[at])
    return found


def stress_basis(net):
    """Stresses of which each stress is a sum, times fractions, in just one way, in reduced form."""
    must_be_flat(net)
    width = len(net.cords)
    # with the last cord first, each equation is solved for its last cord: then a stress begins with its free one
    columns = [column_at(net, cord, singles(net.rings)) for cord in reversed(range(width))]
    rows = [whole([column[at] for column in columns])[0] for at in range(2 * len(net.rings))]
    done, places = solved(rows, width)
    free = [at for at in reversed(range(width)) if at not in places]
    return tuple([tuple(stress_along(done, places, at, width)[::-1]) for at in free])
