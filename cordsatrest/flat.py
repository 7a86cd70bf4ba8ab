"""Flat nets: their rim, their lands, and stresses: pulls and pushes that balance at every ring."""

from cordsatrest.borders import Lands, lands_round
from cordsatrest.charts import Chart, draws_flat
from cordsatrest.cones import lowered, solved
from cordsatrest.errors import BadSpot, NotFlat
from cordsatrest.nets import places_of
from cordsatrest.ratios import NOUGHT, ONE, is_row, ratio, whole


def chart_of(net):
    """The chart of a flat net; None for any other one."""
    if net.coords != 2 or len(net.pegs) < 3:
        return None
    places = places_of(net)
    if len(set(places)) < len(places):
        return None
    chart = Chart(net)
    return chart if draws_flat(chart) else None


def is_flat(net):
    """Whether the net is flat."""
    return chart_of(net) is not None


def flat_chart(net):
    """The chart of a flat net; any other one is refused."""
    chart = chart_of(net)
    if chart is None:
        raise NotFlat(None)
    return chart


def flat_lands(net):
    """The lands of a flat net; any other one is refused."""
    return Lands(flat_chart(net))


def rim(net):
    """The names of the pegs, against the clock, beginning with the first one."""
    return tuple([net.pegs[number] for number in flat_chart(net).rim])


def lands(net):
    """The round walks of the lands."""
    names, walks = net.pegs + net.rings, flat_lands(net).walks
    return tuple([tuple([names[number] for number in walk]) for walk in walks])


def sides(net):
    """For each cord the numbers of the lands at its left and at its right."""
    return tuple(flat_lands(net).pairs)


def is_spot(value):
    """Whether any value is a spot."""
    return is_row(value, 2)


def lands_at(net, spot):
    """The numbers of the lands in which a spot lies, or at whose border: none outside of the rim."""
    chart = flat_chart(net)
    if not is_spot(spot):
        raise BadSpot(spot)
    return lands_round(Lands(chart), spot)


def balances(chart, value):
    """Whether any value is a stress of a flat net."""
    if not is_row(value, len(chart.steps)):
        return False
    parts, _ = whole(value)
    across, up = [0] * len(chart.spots), [0] * len(chart.spots)
    for part, (one, other), (x, y) in zip(parts, chart.steps, chart.ways):
        across[one] += part * x
        across[other] -= part * x
        up[one] += part * y
        up[other] -= part * y
    return not any(across[chart.first_ring:]) and not any(up[chart.first_ring:])


def is_stress(net, value):
    """Whether any value is a stress: a fraction for each cord, so that all of them balance at every ring."""
    return balances(flat_chart(net), value)


def balance_rows(chart):
    """For each coordinate of each ring the integers by which the cords' parts in a stress sum up to 0 there.

    The last cord stands first.
    """
    width, many = len(chart.steps), len(chart.spots)
    rows = [[0] * width for _ in range(2 * many)]
    for cord, ((one, other), way) in enumerate(zip(chart.steps, chart.ways)):
        for at, part in enumerate(way):
            rows[2 * one + at][width - 1 - cord] = part
            rows[2 * other + at][width - 1 - cord] = -part
    return [lowered(row) for row in rows[2 * chart.first_ring:]]


def stress_along(rows, places, free, width):
    """What fulfils the solved equations with 1 at this free place, and 0 at all other free ones."""
    found = [NOUGHT] * width
    found[free] = ONE
    for row, at in zip(rows, places):
        found[at] = ratio(-row[free], row[at])
    return found


def stress_basis(net):
    """Stresses of which each stress is a sum, times fractions, in just one way, in reduced form."""
    chart = flat_chart(net)
    width = len(chart.steps)
    # with the last cord first, each equation is solved for its last cord: then a stress begins with its free one
    done, places = solved(balance_rows(chart), width)
    free = [at for at in reversed(range(width)) if at not in places]
    return tuple([tuple(stress_along(done, places, at, width)[::-1]) for at in free])
