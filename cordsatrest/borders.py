"""Borders: how a flat net's cords and the sides of its rim cut it into lands.

Pegs and rings go by their numbers here: as they stand, pegs first. A step goes from one number to another one,
along a cord or a side of the rim.
"""

from cordsatrest.nets import place_of
from cordsatrest.plane import comes_first, corners_round
from cordsatrest.ratios import row_less, row_sum


def spots_of(net):
    """The place of each peg and ring."""
    return [place_of(net, name) for name in net.pegs + net.rings]


def rim_numbers(net):
    """The numbers of the pegs, against the clock from the first one on; None if one of them is no corner."""
    return corners_round(spots_of(net)[:len(net.pegs)])


def rim_steps(net):
    """The steps along the rim, against the clock."""
    numbers = rim_numbers(net)
    return list(zip(numbers, numbers[1:] + numbers[:1]))


def cord_steps(net):
    """For each cord the step from the end that is named first to the other one."""
    names = net.pegs + net.rings
    return [(names.index(one), names.index(other)) for one, other in net.cords]


def contrary(step):
    """The same step, gone back."""
    return (step[1], step[0])


def numbers_beside(net):
    """For each number the list of those to which a step leads from it."""
    found = [[] for _ in net.pegs + net.rings]
    for one, other in cord_steps(net) + rim_steps(net):
        found[one].append(other)
        found[other].append(one)
    return found


def step_on(spots, beside, step):
    """The step that goes on from the end of a step, with the same land at the left: the sharpest turn to the left."""
    start, at = step
    found = start
    for number in beside[at]:
        if number != start:
            if found == start or comes_first(spots[at], spots[start], spots[number], spots[found]):
                found = number
    return (at, found)


def least_beginning(walk):
    """The walk as a tuple, from that beginning on with which it is the least one."""
    return min([tuple(walk[at:] + walk[:at]) for at in range(len(walk))])


def walks(net):
    """The round walks of all lands, by numbers, ascending."""
    spots, beside, cords = spots_of(net), numbers_beside(net), cord_steps(net)
    seen = set()
    found = []
    # gone back along the rim is outside of all lands
    for first in cords + [contrary(step) for step in cords] + rim_steps(net):
        step, walk = first, []
        while step not in seen:
            seen.add(step)
            walk.append(step[0])
            step = step_on(spots, beside, step)
        if walk:
            found.append(least_beginning(walk))
    return sorted(found)


def steps_in(walk):
    """The steps of a round walk."""
    return list(zip(walk, walk[1:] + walk[:1]))


def land_pairs(net):
    """For each cord the numbers of the lands at its left and at its right."""
    lands = {}
    for number, walk in enumerate(walks(net)):
        for step in steps_in(walk):
            lands[step] = number
    return [(lands[step], lands[contrary(step)]) for step in cord_steps(net)]


def led_over(pairs, first, gains):
    """A row for each land, first for land 0: right of each cord it is what it is at the left, and the cord's gain.

    Cords lead from each land to each other one, as the rim is in one piece within.
    """
    found = {0: first}
    # each time but the last one finds a land
    for _ in pairs:
        for (left, right), gain in zip(pairs, gains):
            if left in found and right not in found:
                found[right] = row_sum(found[left], gain)
            elif right in found and left not in found:
                found[left] = row_less(found[right], gain)
    return tuple([found[land] for land in range(len(found))])
