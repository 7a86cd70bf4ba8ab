"""Roofs over flat nets: planes that meet above the cords, and bend there as stresses tell."""

from cordsatrest.balance import most_pulls, singles
from cordsatrest.borders import land_pairs, led_over
from cordsatrest.checks import are_moves
from cordsatrest.errors import BadRoof, BadSpot, BadStress
from cordsatrest.flat import balances, is_spot, lands_round, must_be_flat
from cordsatrest.moves import closing
from cordsatrest.nets import place_of
from cordsatrest.plane import turned
from cordsatrest.ratios import NOUGHT, ONE, factor_between, is_row, minus, noughts, row_less, row_product, row_times


def bend_row(net, cord):
    """The plane that is added from left to right of a cord for each bit of its stress."""
    start, end = [place_of(net, name) for name in net.cords[cord]]
    aside = turned(row_less(end, start))
    return aside + (minus(NOUGHT, row_product(aside, start)),)


def height_over(plane, spot):
    """The height of a plane over a spot."""
    return row_product(plane, spot + (ONE,))


def many_lands(net):
    """How many lands a flat net has."""
    return len(net.cords) - len(net.rings) + 1


def are_planes(net, value):
    """Whether any value is a row of three fractions for each land."""
    return isinstance(value, tuple) and len(value) == many_lands(net) and all([is_row(row, 3) for row in value])


def fit_together(net, planes):
    """Whether for each cord the planes of both its lands have equal heights over both its ends."""
    for (left, right), ends in zip(land_pairs(net), net.cords):
        for name in ends:
            spot = place_of(net, name)
            if height_over(planes[left], spot) != height_over(planes[right], spot):
                return False
    return True


def makes_roof(net, value):
    """Whether any value is a roof over a flat net."""
    return are_planes(net, value) and fit_together(net, value)


def is_roof(net, value):
    """Whether any value is a roof."""
    must_be_flat(net)
    return makes_roof(net, value)


def roof_of(net, stress):
    """The roof that belongs to a stress: flat over land 0."""
    must_be_flat(net)
    if not balances(net, stress):
        raise BadStress(stress)
    gains = [row_times(bend_row(net, cord), part) for cord, part in enumerate(stress)]
    return led_over(land_pairs(net), noughts(3), gains)


def bends_in(net, roof):
    """For each cord how often its own bend the roof bends there."""
    found = []
    for cord, (left, right) in enumerate(land_pairs(net)):
        found.append(factor_between(row_less(roof[right], roof[left]), bend_row(net, cord)))
    return tuple(found)


def stress_of(net, roof):
    """The stress whose roof this is, with one plane added over all lands."""
    must_be_flat(net)
    if not makes_roof(net, roof):
        raise BadRoof(roof)
    return bends_in(net, roof)


def height(net, roof, spot):
    """The height of a roof over a spot of the rim."""
    must_be_flat(net)
    if not makes_roof(net, roof):
        raise BadRoof(roof)
    found = lands_round(net, spot) if is_spot(spot) else ()
    if not found:
        raise BadSpot(spot)
    return height_over(roof[found[0]], spot)


def bulges(net, roof):
    """("bulges",) if the roof bends up across no cord, else ("dents", cord) with the first one where it does."""
    for cord, part in enumerate(stress_of(net, roof)):
        if part[0] < 0:
            return ("dents", cord)
    return ("bulges",)


def creases(net):
    """("roof", roof) that bulges, with a crease along each cord, else ("slack", moves) that lengthen no cord."""
    must_be_flat(net)
    pulls, moves = most_pulls(net, singles(net.rings))
    if all([pull[0] > 0 for pull in pulls]):
        return ("roof", roof_of(net, pulls))
    return ("slack", moves)


def bends_down(net, roof):
    """Whether any value is a roof over a flat net that bends down along each cord."""
    return makes_roof(net, roof) and all([part[0] > 0 for part in bends_in(net, roof)])


def are_slack(net, moves):
    """Whether any value is moves that at first lengthen no cord, and shorten some."""
    if not are_moves(net, moves):
        return False
    shorter = [closing(net, moves, cord)[0] for cord in range(len(net.cords))]
    return all([part >= 0 for part in shorter]) and any([part > 0 for part in shorter])


def shows_creases(net, value):
    """Whether any value is right as what creases tells."""
    must_be_flat(net)
    if not isinstance(value, tuple) or len(value) != 2:
        return False
    if value[0] == "roof":
        return bends_down(net, value[1])
    return value[0] == "slack" and are_slack(net, value[1])
