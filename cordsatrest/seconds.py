"""Second nets of flat nets: a spot for each land, so that what joins them stands at right angles to the cords."""

from cordsatrest.borders import gaps_in, led_over
from cordsatrest.charts import times_turned
from cordsatrest.errors import BadSecond
from cordsatrest.flat import flat_lands, is_spot
from cordsatrest.ratios import ratio_rows, whole_rows
from cordsatrest.roofs import planes_by


def are_spots(lands, value):
    """Whether any value is a spot for each land."""
    return isinstance(value, tuple) and len(value) == len(lands.walks) and all([is_spot(spot) for spot in value])


def slopes_in(lands, value):
    """(slopes, gaps, factor) of any value that is a second net, None if it is none.

    Slopes are the contrary numbers of its spots times the factor, integers; gaps: what they differ by at each cord.
    """
    if not are_spots(lands, value):
        return None
    spots, factor = whole_rows(value)
    slopes = [(-x, -y) for x, y in spots]
    gaps = gaps_in(lands, slopes)
    for (a, b), (x, y) in zip(gaps, lands.chart.ways):
        if a * x + b * y != 0:
            return None
    return slopes, gaps, factor


def slopes_by(lands, second):
    """As slopes_in, for any value, which is refused unless it is a second net."""
    found = slopes_in(lands, second)
    if found is None:
        raise BadSecond(second)
    return found


def is_second(net, value):
    """Whether any value is a second net."""
    return slopes_in(flat_lands(net), value) is not None


def second_of(net, stress):
    """The second net that belongs to a stress: land 0 has the spot (0, 0)."""
    planes, factor = planes_by(net, stress)
    return ratio_rows([(-a, -b) for a, b, _ in planes], factor)


def stress_by(net, second):
    """The stress to which a second net belongs, shifted perhaps."""
    lands = flat_lands(net)
    _, gaps, factor = slopes_by(lands, second)
    return times_turned(lands.chart, gaps, factor)


def roof_by(net, second):
    """The roof whose planes have the contrary numbers of a second net's spots, and height 0 of land 0 over (0, 0)."""
    lands = flat_lands(net)
    slopes, gaps, factor = slopes_by(lands, second)
    scale, gains = lands.chart.scale, []
    for (a, b), (one, _) in zip(gaps, lands.chart.steps):
        x, y = lands.chart.spots[one]
        # both planes have one height there; all spots have the chart's scale
        gains.append([-a * x - b * y])
    heights = led_over(lands, [0], gains)
    planes = [(a * scale, b * scale, row[0]) for (a, b), row in zip(slopes, heights)]
    return ratio_rows(planes, factor * scale)
