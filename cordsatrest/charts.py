"""Charts: nets of two coordinates in whole numbers, from which it is read off whether a net is flat.

Pegs and rings go by their numbers here: as they stand, pegs first. A step goes from one number to another one,
along a cord or a side of the rim.
"""

from cordsatrest.nets import places_of
from cordsatrest.plane import corners_round, is_between, side, sides_of, way_between
from cordsatrest.ratios import ratio, whole, whole_rows


class Chart:
    """A net of two coordinates and three pegs or more. Its spots are its places times its scale, a whole number.

    Rings have the numbers from first_ring on. Steps are those of the cords, from the end that is named first; ways
    are theirs between the spots. Rim: the numbers of the pegs, against the clock; None if one of them is no corner.
    """

    def __init__(self, net):
        numbers = {name: number for number, name in enumerate(net.pegs + net.rings)}
        self.spots, self.scale = whole_rows(places_of(net))
        self.first_ring = len(net.pegs)
        self.steps = [(numbers[one], numbers[other]) for one, other in net.cords]
        self.ways = [way_between(self.spots[one], self.spots[other]) for one, other in self.steps]
        self.rim = corners_round(self.spots[:self.first_ring])


def steps_in(walk):
    """The steps of a round walk."""
    return list(zip(walk, walk[1:] + walk[:1]))


def are_within(chart):
    """Whether all rings lie strictly within the rim."""
    rings = chart.spots[chart.first_ring:]
    for one, other in steps_in(chart.rim):
        if any([part <= 0 for part in sides_of(chart.spots[one], chart.spots[other], rings)]):
            return False
    return True


def goes_through(chart, step, row):
    """Whether a step goes through a further place; row: at which side of it each place lies."""
    one, other = step
    # both its ends lie straight
    if row.count(0) == 2:
        return False
    for number, part in enumerate(row):
        if part == 0 and number not in step and is_between(chart.spots[one], chart.spots[other], chart.spots[number]):
            return True
    return False


def are_crossed(steps, rows):
    """Whether two of the steps cross: each has its ends at both sides of the other one."""
    for at, (one, other) in enumerate(steps):
        for far in range(at):
            near, end = steps[far]
            if rows[at][near] * rows[at][end] < 0 and rows[far][one] * rows[far][other] < 0:
                return True
    return False


def are_clear(chart):
    """Whether no cord goes through a further place, and no two of them cross.

    Cords with a further point in common touch or overlap where one of them ends, if they do not cross.
    """
    rows = [sides_of(chart.spots[one], chart.spots[other], chart.spots) for one, other in chart.steps]
    if any([goes_through(chart, step, row) for step, row in zip(chart.steps, rows)]):
        return False
    return not are_crossed(chart.steps, rows)


def lead_to_pegs(chart):
    """Whether from each ring a way of cords leads to a peg."""
    tied = [number < chart.first_ring for number in range(len(chart.spots))]
    # each time but the last one finds a ring
    for _ in chart.spots[chart.first_ring:]:
        for one, other in chart.steps:
            if tied[one] or tied[other]:
                tied[one] = tied[other] = True
    return all(tied)


def draws_flat(chart):
    """Whether the net of a chart is flat, if no two of its places are the same."""
    return chart.rim is not None and are_within(chart) and are_clear(chart) and lead_to_pegs(chart)


def spot_on(chart, spot):
    """(spot, spots): a spot, as the chart has it, and its own spots, all times one factor by which both are whole."""
    (x, y), factor = whole(spot)
    return (x * chart.scale, y * chart.scale), [(far * factor, high * factor) for far, high in chart.spots]


def is_in_rim(chart, spot):
    """Whether a spot lies within the rim, or at its border."""
    here, spots = spot_on(chart, spot)
    return all([side(spots[one], spots[other], here) >= 0 for one, other in steps_in(chart.rim)])


def times_turned(chart, rows, factor):
    """For each cord how many times the turn of its way a row is, which is so many times it.

    The rows begin with two integers, the row's own ones times the factor.
    """
    found = []
    for row, (x, y) in zip(rows, chart.ways):
        top, bottom = (row[1], x) if x != 0 else (-row[0], y)
        found.append(ratio(top * chart.scale, bottom * factor))
    return tuple(found)
