"""Roofs over flat nets: planes that meet above the cords, and bend there as stresses tell."""

from cordsatrest.balance import most_pulls, singles
from cordsatrest.borders import Lands, gaps_in, lands_round, led_over
from cordsatrest.charts import times_turned
from cordsatrest.checks import are_moves
from cordsatrest.errors import BadRoof, BadSpot, BadStress
from cordsatrest.flat import balances, flat_chart, flat_lands, is_spot
from cordsatrest.ratios import ONE, is_row, ratio_rows, row_product, whole, whole_rows


def are_planes(lands, value):
    """Whether any value is a row of three fractions for each land."""
    return isinstance(value, tuple) and len(value) == len(lands.walks) and all([is_row(row, 3) for row in value])


def fit_together(chart, gaps):
    """Whether planes have equal heights over both ends of each cord; gaps: what they differ by there."""
    for (a, b, c), ends in zip(gaps, chart.steps):
        for number in ends:
            x, y = chart.spots[number]
            if a * x + b * y + c * chart.scale != 0:
                return False
    return True


def stress_over(lands, planes, factor):
    """The stress of a roof, None if these are none: planes of integers, its own numbers times the factor."""
    gaps = gaps_in(lands, planes)
    return times_turned(lands.chart, gaps, factor) if fit_together(lands.chart, gaps) else None


def stress_in(lands, value):
    """The stress of any value that is a roof, None if it is none."""
    if not are_planes(lands, value):
        return None
    planes, factor = whole_rows(value)
    return stress_over(lands, planes, factor)


def is_roof(net, value):
    """Whether any value is a roof."""
    return stress_in(flat_lands(net), value) is not None


def planes_of(lands, stress):
    """(planes, factor): planes of integers, those of the roof that belongs to a stress times the factor."""
    chart = lands.chart
    parts, factor = whole(stress)
    gains = []
    for part, (one, _), (x, y) in zip(parts, chart.steps, chart.ways):
        start, low = chart.spots[one]
        # the spots and the ways have the chart's scale
        gains.append((-part * y * chart.scale, part * x * chart.scale, part * (y * start - x * low)))
    return led_over(lands, (0, 0, 0), gains), factor * chart.scale * chart.scale


def planes_by(net, stress):
    """As planes_of, for any value, which is refused unless it is a stress of a flat net."""
    chart = flat_chart(net)
    if not balances(chart, stress):
        raise BadStress(stress)
    return planes_of(Lands(chart), stress)


def roof_of(net, stress):
    """The roof that belongs to a stress: flat over land 0."""
    planes, factor = planes_by(net, stress)
    return ratio_rows(planes, factor)


def stress_of(net, roof):
    """The stress whose roof this is, with one plane added over all lands."""
    stress = stress_in(flat_lands(net), roof)
    if stress is None:
        raise BadRoof(roof)
    return stress


def height(net, roof, spot):
    """The height of a roof over a spot of the rim."""
    lands = flat_lands(net)
    if stress_in(lands, roof) is None:
        raise BadRoof(roof)
    found = lands_round(lands, spot) if is_spot(spot) else ()
    if not found:
        raise BadSpot(spot)
    return row_product(roof[found[0]], spot + (ONE,))


def bulges(net, roof):
    """("bulges",) if the roof bends up across no cord, else ("dents", cord) with the first one where it does."""
    for cord, part in enumerate(stress_of(net, roof)):
        if part[0] < 0:
            return ("dents", cord)
    return ("bulges",)


def creases(net):
    """("roof", roof) that bulges, with a crease along each cord, else ("slack", moves) that lengthen no cord."""
    chart = flat_chart(net)
    pulls, moves = most_pulls(net, singles(net.rings))
    if not all([pull[0] > 0 for pull in pulls]):
        return ("slack", moves)
    planes, factor = planes_of(Lands(chart), pulls)
    return ("roof", ratio_rows(planes, factor))


def bends_down(stress):
    """Whether a stress, None for none, is above 0 at each cord."""
    return stress is not None and all([part[0] > 0 for part in stress])


def are_slack(net, chart, moves):
    """Whether any value is moves that at first lengthen no cord, and shorten some."""
    if not are_moves(net, moves):
        return False
    rows = [(0, 0)] * chart.first_ring + whole_rows(moves)[0]
    gains = []
    for (one, other), (x, y) in zip(chart.steps, chart.ways):
        gains.append(x * (rows[other][0] - rows[one][0]) + y * (rows[other][1] - rows[one][1]))
    return all([gain <= 0 for gain in gains]) and any([gain < 0 for gain in gains])


def shows_creases(net, value):
    """Whether any value is right as what creases tells."""
    chart = flat_chart(net)
    if not isinstance(value, tuple) or len(value) != 2:
        return False
    if value[0] == "roof":
        return bends_down(stress_in(Lands(chart), value[1]))
    return value[0] == "slack" and are_slack(net, chart, value[1])
