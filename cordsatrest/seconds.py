"""Second nets of flat nets: a spot for each land, so that what joins them stands at right angles to the cords."""

from cordsatrest.borders import land_pairs, led_over
from cordsatrest.errors import BadSecond, BadStress
from cordsatrest.flat import balances, is_spot, must_be_flat
from cordsatrest.nets import place_of
from cordsatrest.plane import turned
from cordsatrest.ratios import NOUGHT, factor_between, minus, noughts, row_less, row_product, row_times
from cordsatrest.roofs import many_lands, roof_of


def way_along(net, cord):
    """The way from the end of a cord that is named first to the other one."""
    start, end = [place_of(net, name) for name in net.cords[cord]]
    return row_less(end, start)


def are_across(net, spots):
    """Whether for each cord the spots of both its lands lie at right angles to it."""
    for cord, (left, right) in enumerate(land_pairs(net)):
        if row_product(row_less(spots[left], spots[right]), way_along(net, cord)) != NOUGHT:
            return False
    return True


def is_second(net, value):
    """Whether any value is a second net."""
    must_be_flat(net)
    if not isinstance(value, tuple) or len(value) != many_lands(net) or not all([is_spot(spot) for spot in value]):
        return False
    return are_across(net, value)


def second_of(net, stress):
    """The second net that belongs to a stress: land 0 has the spot (0, 0)."""
    must_be_flat(net)
    if not balances(net, stress):
        raise BadStress(stress)
    gains = []
    for cord, part in enumerate(stress):
        gains.append(row_times(turned(way_along(net, cord)), minus(NOUGHT, part)))
    return led_over(land_pairs(net), noughts(2), gains)


def stress_by(net, second):
    """The stress to which a second net belongs, shifted perhaps."""
    if not is_second(net, second):
        raise BadSecond(second)
    found = []
    for cord, (left, right) in enumerate(land_pairs(net)):
        found.append(factor_between(row_less(second[left], second[right]), turned(way_along(net, cord))))
    return tuple(found)


def roof_by(net, second):
    """The roof whose planes have the contrary numbers of a second net's spots, and height 0 of land 0 over (0, 0)."""
    # shifting a second net adds one plane to the roof, with no height over (0, 0)
    roof = roof_of(net, stress_by(net, second))
    return tuple([row_times(spot, (-1, 1)) + plane[2:] for spot, plane in zip(second, roof)])
