"""Borders: how a flat net's cords and the sides of its rim cut it into lands. Numbers and steps are those of charts."""

from cordsatrest.charts import spot_on, steps_in
from cordsatrest.plane import lies_on, put_round, side, way_between


class Lands:
    """The lands of a flat net, on its chart.

    Walks are their round walks, by numbers, ascending; left: the number of the land at the left of each step;
    pairs: for each cord the numbers of the lands at its left and at its right.
    """

    def __init__(self, chart):
        self.chart = chart
        self.walks = walks_on(chart)
        self.left = {}
        for number, walk in enumerate(self.walks):
            for step in steps_in(walk):
                self.left[step] = number
        self.pairs = [(self.left[step], self.left[contrary(step)]) for step in chart.steps]


def contrary(step):
    """The same step, gone back."""
    return (step[1], step[0])


def steps_after(chart, steps):
    """For each step, and each one gone back, the one that goes on with the same land at the left.

    This is the sharpest turn to the left: to the next way back with the clock.
    """
    rows = [[] for _ in chart.spots]
    for one, other in steps + [contrary(step) for step in steps]:
        put_round(rows[one], way_between(chart.spots[one], chart.spots[other]), other)
    found = {}
    for at, row in enumerate(rows):
        for place, (_, number) in enumerate(row):
            found[(number, at)] = (at, row[place - 1][1])
    return found


def least_beginning(walk):
    """The walk as a tuple, from that beginning on with which it is the least one."""
    least = min(walk)
    return min([tuple(walk[at:] + walk[:at]) for at, number in enumerate(walk) if number == least])


def walks_on(chart):
    """The round walks of all lands, by numbers, ascending."""
    rim = steps_in(chart.rim)
    after = steps_after(chart, chart.steps + rim)
    seen = set()
    found = []
    # gone back along the rim is outside of all lands
    for first in chart.steps + [contrary(step) for step in chart.steps] + rim:
        step, walk = first, []
        while step not in seen:
            seen.add(step)
            walk.append(step[0])
            step = after[step]
        if walk:
            found.append(least_beginning(walk))
    return sorted(found)


def turn_at(one, other, spot):
    """What a way from one spot to the other, on which a spot does not lie, adds to how often a walk leads around it."""
    low, high = one[1] <= spot[1], other[1] <= spot[1]
    if low and not high and side(one, other, spot) > 0:
        return 1
    return -1 if high and not low and side(one, other, spot) < 0 else 0


def lands_round(lands, spot):
    """The numbers of the lands in which a spot lies, or at whose border."""
    here, spots = spot_on(lands.chart, spot)
    turns, borders = [0] * len(lands.walks), {}
    for (one, other), land in lands.left.items():
        if lies_on(spots[one], spots[other], here):
            borders[land] = True
        else:
            turns[land] += turn_at(spots[one], spots[other], here)
    return tuple([land for land, turn in enumerate(turns) if turn > 0 or land in borders])


def gaps_in(lands, rows):
    """For each cord the row of the land at its right less that of the land at its left."""
    return [[far - near for near, far in zip(rows[left], rows[right])] for left, right in lands.pairs]


def led_over(lands, first, gains):
    """A row for each land, first for land 0: right of each cord it is what it is at the left, and the cord's gain.

    Cords lead from each land to each other one, as the rim is in one piece within.
    """
    found = {0: first}
    # each time finds a land
    while len(found) < len(lands.walks):
        for (left, right), gain in zip(lands.pairs, gains):
            if left in found and right not in found:
                found[right] = [part + more for part, more in zip(found[left], gain)]
            elif right in found and left not in found:
                found[left] = [part - more for part, more in zip(found[right], gain)]
    return [found[land] for land in range(len(found))]
