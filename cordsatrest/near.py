"""Near: sites of which each land of a flat net holds just the spots that are nearest to its own."""

from cordsatrest.errors import BadSites, BadSpot, BadStress
from cordsatrest.flat import balances, is_spot, lands_round, must_be_flat
from cordsatrest.ratios import least, minus, row_less, row_times, square, times
from cordsatrest.roofs import are_planes, bends_down, roof_of
from cordsatrest.seconds import second_of, stress_by

HALF = (1, 2)
QUARTER = (1, 4)


def plane_by(site):
    """How far a spot is from a land with this site, less the spot's square: a plane over all spots."""
    return row_times(site[:2], (-2, 1)) + (minus(square(site[:2]), site[2]),)


def do_fit(net, value):
    """Whether any value is sites that fit a flat net: then these planes make a roof that creases at each cord."""
    return are_planes(net, value) and bends_down(net, tuple([plane_by(site) for site in value]))


def are_sites(net, value):
    """Whether any value is sites that fit."""
    must_be_flat(net)
    return do_fit(net, value)


def sites_of(net, stress):
    """The sites that belong to a stress above 0 at each cord."""
    must_be_flat(net)
    if not balances(net, stress) or not all([part[0] > 0 for part in stress]):
        raise BadStress(stress)
    found = []
    for spot, plane in zip(second_of(net, stress), roof_of(net, stress)):
        found.append(row_times(spot, HALF) + (minus(times(square(spot), QUARTER), plane[2]),))
    return tuple(found)


def stress_from(net, sites):
    """The stress to which sites that fit belong."""
    if not are_sites(net, sites):
        raise BadSites(sites)
    return stress_by(net, tuple([row_times(site[:2], (2, 1)) for site in sites]))


def far_from(site, spot):
    """How far a spot is from a land with this site."""
    return minus(square(row_less(spot, site[:2])), site[2])


def nearest(net, sites, spot):
    """The numbers of the lands from which a spot of the rim is least far."""
    if not are_sites(net, sites):
        raise BadSites(sites)
    if not is_spot(spot) or not lands_round(net, spot):
        raise BadSpot(spot)
    ways = [far_from(site, spot) for site in sites]
    return tuple([land for land, far in enumerate(ways) if far == least(ways)])
