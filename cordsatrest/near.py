"""Near: sites of which each land of a flat net holds just the spots that are nearest to its own."""

from cordsatrest.charts import is_in_rim
from cordsatrest.errors import BadSites, BadSpot, BadStress
from cordsatrest.flat import flat_lands, is_spot
from cordsatrest.ratios import ratio, whole, whole_rows
from cordsatrest.roofs import are_planes, bends_down, planes_by, stress_over


def planes_under(sites):
    """(planes, factor): how far spots are from each land, less the spot's square, is a plane over all spots.

    The planes are of integers: their own numbers times the factor.
    """
    rows, factor = whole_rows(sites)
    planes = [(-2 * x * factor, -2 * y * factor, x * x + y * y - off * factor) for x, y, off in rows]
    return planes, factor * factor


def stress_under(lands, value):
    """The stress of any value that is sites that fit, None if it is none.

    Sites fit if their planes make a roof that creases at each cord.
    """
    if not are_planes(lands, value):
        return None
    planes, factor = planes_under(value)
    stress = stress_over(lands, planes, factor)
    return stress if bends_down(stress) else None


def are_sites(net, value):
    """Whether any value is sites that fit."""
    return stress_under(flat_lands(net), value) is not None


def sites_of(net, stress):
    """The sites that belong to a stress above 0 at each cord."""
    planes, factor = planes_by(net, stress)
    if not bends_down(stress):
        raise BadStress(stress)
    found = []
    for a, b, c in planes:
        off = ratio(a * a + b * b - 4 * c * factor, 4 * factor * factor)
        found.append((ratio(-a, 2 * factor), ratio(-b, 2 * factor), off))
    return tuple(found)


def stress_from(net, sites):
    """The stress to which sites that fit belong."""
    stress = stress_under(flat_lands(net), sites)
    if stress is None:
        raise BadSites(sites)
    return stress


def ways_from(sites, spot):
    """How far a spot is from each land, less its square, times one factor above 0: integers."""
    (x, y), factor = whole(spot)
    return [a * x + b * y + c * factor for a, b, c in planes_under(sites)[0]]


def nearest(net, sites, spot):
    """The numbers of the lands from which a spot of the rim is least far."""
    lands = flat_lands(net)
    if stress_under(lands, sites) is None:
        raise BadSites(sites)
    if not is_spot(spot) or not is_in_rim(lands.chart, spot):
        raise BadSpot(spot)
    ways = ways_from(sites, spot)
    least = min(ways)
    return tuple([land for land, far in enumerate(ways) if far == least])
