"""Strays: how far rings can be from their places if cords are let out a little."""

from cordsatrest.balance import bear_at
from cordsatrest.checks import are_pulls, are_rows
from cordsatrest.errors import BadLack, BadMore, BadPulls, BadRows, NoName, NotBalanced
from cordsatrest.nets import is_name_of
from cordsatrest.placements import coords_in, picture
from cordsatrest.ratios import NOUGHT, ONE, is_fraction, led_on, noughts, plus, row_less, row_product, square, times
from cordsatrest.webs import answers, knot_of, knots_from, web_rows

HALF = (1, 2)
TWICE = (2, 1)


def must_balance(net, pulls):
    """Refuse what is no pulls, and pulls that do not balance with the weights at every ring."""
    if not are_pulls(net, pulls):
        raise BadPulls(pulls)
    if not bear_at(net, pulls, net.rings):
        raise NotBalanced(pulls)


def strays_in(net, rows):
    """The stray of each peg and ring in these rows, by name."""
    many = coords_in(net, rows)
    found = {peg: noughts(many) for peg in net.pegs}
    for ring, row, place in zip(net.rings, rows, picture(net)):
        found[ring] = row_less(row, led_on(place, many))
    return found


def bend(net, pulls, rows):
    """The sum of pull times the square of how far the strays of both ends lie from one another."""
    must_balance(net, pulls)
    if not are_rows(net, rows):
        raise BadRows(rows)
    strays, total = strays_in(net, rows), NOUGHT
    for pull, (one, other) in zip(pulls, net.cords):
        total = plus(total, times(pull, square(row_less(strays[one], strays[other]))))
    return total


def heads_apart(net, pulls, one, other):
    """How far the heads of two knots lie apart if 1 flows from one to other; None if no way leads there."""
    knots = knots_from(net, pulls, one)
    if other not in knots:
        return None
    knots = [knot for knot in knots if knot != other]
    rights = [[ONE if knot == one else NOUGHT] for knot in knots]
    return answers(web_rows(net, pulls, knots), rights)[knots.index(one)][0]


def resistance(net, pulls, one, other):
    """1 by the least sum of pull times difference of heads squared, 1 at one, 0 at other; None without a way."""
    if not are_pulls(net, pulls):
        raise BadPulls(pulls)
    for name in (one, other):
        if not is_name_of(net, name):
            raise NoName(name)
    start, end = knot_of(net, one), knot_of(net, other)
    return NOUGHT if start == end else heads_apart(net, pulls, start, end)


def stray(net, pulls, more, lack, one, other):
    """No less than the square of how far the strays of two names lie apart; None if the pulls tell no bound."""
    must_balance(net, pulls)
    if not are_pulls(net, more):
        raise BadMore(more)
    if not is_fraction(lack) or lack[0] < 0:
        raise BadLack(lack)
    found = resistance(net, pulls, one, other)
    if found is None:
        return None
    return times(found, plus(row_product(pulls, more), times(TWICE, lack)))


def score_above(net, pulls, more):
    """No less than what the score can be above the picture's."""
    must_balance(net, pulls)
    if not are_pulls(net, more):
        raise BadMore(more)
    return times(HALF, row_product(pulls, more))
