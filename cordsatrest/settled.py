"""Settled: the picture that belongs to told pulls."""

from cordsatrest.checks import are_pulls, are_rows
from cordsatrest.errors import Adrift, BadPulls, BadRows, Met, TooFine
from cordsatrest.nets import cords_at, place_of, weight_of
from cordsatrest.placements import places_in, score_in, squares_in
from cordsatrest.ratios import minus, row_product, row_sum, row_times, times
from cordsatrest.webs import PEGS, answers, knots_from, web_rows
from cordsatrest.words import fits
from cordsatrest.writing import net_with

HALF = (1, 2)


def draw_of_pegs(net, pulls, ring):
    """The sum of pull times place over the cords from a ring to pegs, and the ring's weight."""
    total = weight_of(net, ring)
    for cord in cords_at(net, ring):
        one, other = net.cords[cord]
        far = other if one == ring else one
        if far in net.pegs:
            total = row_sum(total, row_times(place_of(net, far), pulls[cord]))
    return total


def settled_places(net, pulls):
    """For each ring where these pulls balance, with the weights, at every ring."""
    if not are_pulls(net, pulls):
        raise BadPulls(pulls)
    tied = knots_from(net, pulls, PEGS)
    for ring in net.rings:
        if ring not in tied:
            raise Adrift(ring)
    rights = [draw_of_pegs(net, pulls, ring) for ring in net.rings]
    return tuple(answers(web_rows(net, pulls, net.rings), rights))


def settled(net, pulls):
    """The net whose rings stand at their settled places."""
    rows = settled_places(net, pulls)
    for ring, row in zip(net.rings, rows):
        if not all([fits(part) for part in row]):
            raise TooFine(ring)
    places = places_in(net, rows)
    for cord, (one, other) in enumerate(net.cords):
        if places[one] == places[other]:
            raise Met(cord)
    return net_with(net, rows, net.cords)


def strain(net, pulls, rows):
    """Half the sum of pull times the cord's square in rows, less the score in rows."""
    if not are_pulls(net, pulls):
        raise BadPulls(pulls)
    if not are_rows(net, rows):
        raise BadRows(rows)
    return minus(times(HALF, row_product(pulls, squares_in(net, rows))), score_in(net, rows))
