"""Placements: where rings can be put so that no cord is longer than drawn."""

from cordsatrest.checks import are_moves, are_rows
from cordsatrest.errors import BadMoves, BadPlacement, BadShare, BadStep, NoName
from cordsatrest.nets import is_name_of, place_of, square_of, weight_of
from cordsatrest.ratios import (
    NOUGHT, ONE, is_fraction, is_less, led_on, minus, plus, row_less, row_product, row_sum, row_times, square,
)


def coords_in(net, rows):
    """How many coordinates the rows have."""
    return len(rows[0]) if rows else net.coords


def places_in(net, rows):
    """The place of each peg and ring, by name, if the rings are put to these rows."""
    many = coords_in(net, rows)
    places = {peg: led_on(place_of(net, peg), many) for peg in net.pegs}
    for ring, row in zip(net.rings, rows):
        places[ring] = row
    return places


def squares_in(net, rows):
    """The square of each cord's length in these rows."""
    places = places_in(net, rows)
    return [square(row_less(places[one], places[other])) for one, other in net.cords]


def lets_in(net, rows):
    """How much each cord hangs loose in these rows: below 0 where it is longer than drawn."""
    return tuple([minus(square_of(net, cord), now) for cord, now in enumerate(squares_in(net, rows))])


def score_in(net, rows):
    """The sum of weight times coordinate in these rows, over all rings and the net's coordinates."""
    total = NOUGHT
    for ring, row in zip(net.rings, rows):
        total = plus(total, row_product(weight_of(net, ring), row[:net.coords]))
    return total


def picture(net):
    """The placement in which all rings are where they are drawn."""
    return tuple([place_of(net, ring) for ring in net.rings])


def is_placement(net, value):
    """Whether any value is a placement of the net."""
    return are_rows(net, value) and all([let[0] >= 0 for let in lets_in(net, value)])


def lets(net, placement):
    """For each cord, the square of its length as drawn, less that in the placement."""
    if not is_placement(net, placement):
        raise BadPlacement(placement)
    return lets_in(net, placement)


def score(net, placement):
    """The sum of weight times coordinate over all rings and the net's coordinates."""
    if not is_placement(net, placement):
        raise BadPlacement(placement)
    return score_in(net, placement)


def between(net, placement, one, other):
    """The square of the distance of two pegs or rings in a placement."""
    if not is_placement(net, placement):
        raise BadPlacement(placement)
    places = places_in(net, placement)
    for name in (one, other):
        if not is_name_of(net, name):
            raise NoName(name)
    return square(row_less(places[one], places[other]))


def mixture(net, one, other, share):
    """The placement that is share times the other one, and what is left of 1 times the one."""
    for placement in (one, other):
        if not is_placement(net, placement):
            raise BadPlacement(placement)
    if not is_fraction(share) or share[0] < 0 or is_less(ONE, share):
        raise BadShare(share)
    many = max(coords_in(net, one), coords_in(net, other))
    left = minus(ONE, share)
    mixed = []
    for a, b in zip(one, other):
        mixed.append(row_sum(row_times(led_on(a, many), left), row_times(led_on(b, many), share)))
    return tuple(mixed)


def moved(net, moves, step):
    """For each ring its place and step times its row of the moves."""
    if not are_moves(net, moves):
        raise BadMoves(moves)
    if not is_fraction(step):
        raise BadStep(step)
    return tuple([row_sum(place, row_times(row, step)) for place, row in zip(picture(net), moves)])
