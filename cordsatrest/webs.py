"""Webs: the knots that pulled cords join, and what can be told of each knot if all that draws there balances.

A knot is a ring, by its name, or all pegs together, as they stand fast.
"""

from cordsatrest.cones import solved
from cordsatrest.ratios import NOUGHT, minus, plus, ratio, whole

# no ring has this name
PEGS = ""


def knot_of(net, name):
    """The knot of a peg or a ring."""
    return name if name in net.rings else PEGS


def knot_pairs(net, pulls):
    """(pull, knot, knot) for each cord that is pulled."""
    found = []
    for pull, (one, other) in zip(pulls, net.cords):
        if pull[0] > 0:
            found.append((pull, knot_of(net, one), knot_of(net, other)))
    return found


def knots_from(net, pulls, start):
    """All knots to which a way of pulled cords leads from this one, itself too, as they are found."""
    found, pairs = [start], knot_pairs(net, pulls)
    # each time but the last one finds a knot
    for _ in net.rings:
        for _, one, other in pairs:
            if (one in found) != (other in found):
                found.append(other if one in found else one)
    return found


def web_rows(net, pulls, knots):
    """For each of these knots the pulls at all of them: all its pulls at itself, less those to each other one."""
    rows = [[NOUGHT] * len(knots) for _ in knots]
    for pull, one, other in knot_pairs(net, pulls):
        for near, far in ((one, other), (other, one)):
            if near in knots:
                at = knots.index(near)
                rows[at][at] = plus(rows[at][at], pull)
                if far in knots:
                    rows[at][knots.index(far)] = minus(rows[at][knots.index(far)], pull)
    return rows


def answers(rows, rights):
    """For each unknown the row that solves the equations, of which there are as many, none a sum of others."""
    width = len(rows)
    found = [()] * width
    done, places = solved([whole(row + list(right))[0] for row, right in zip(rows, rights)], width)
    for row, at in zip(done, places):
        found[at] = tuple([ratio(part, row[at]) for part in row[width:]])
    return found
