"""Hanging: whether a net hangs as it is drawn, by pulls that bear its weights, or how it can come lower."""

from cordsatrest.balance import bear_at, bearing_pulls, free_cords
from cordsatrest.checks import are_moves, are_pulls, is_step
from cordsatrest.moves import are_shorter, best_step, move_of
from cordsatrest.nets import weight_of
from cordsatrest.placements import moved
from cordsatrest.ratios import NOUGHT, is_noughts, plus, row_product
from cordsatrest.rounds import loose_rings


def hangs(net):
    """("pulls", pulls) that bear the weights at all rings that are not held, else ("lower", moves, step)."""
    loose = loose_rings(net)
    pulls, moves = bearing_pulls(net, loose)
    if pulls is not None:
        return ("pulls", pulls)
    return ("lower", moves, best_step(net, moves, free_cords(net, loose)))


def gain(net, moves):
    """What the score grows by for each bit of step."""
    total = NOUGHT
    for ring in net.rings:
        total = plus(total, row_product(weight_of(net, ring), move_of(net, moves, ring)))
    return total


def are_right_pulls(net, loose, value):
    """Whether any value is pulls that bear the weights at all rings that are not held, by their cords alone."""
    if not are_pulls(net, value) or not bear_at(net, value, loose):
        return False
    cords = free_cords(net, loose)
    return all([pull[0] == 0 for cord, pull in enumerate(value) if cord not in cords])


def are_right_moves(net, loose, moves, step):
    """Whether any two values are moves and a step that raise the score, and shorten all cords of rings not held."""
    if not are_moves(net, moves) or not is_step(step):
        return False
    if not all([is_noughts(row) for ring, row in zip(net.rings, moves) if ring not in loose]):
        return False
    return gain(net, moves)[0] > 0 and are_shorter(net, moves, step, free_cords(net, loose))


def shows_hangs(net, value):
    """Whether any value is right as what hangs tells."""
    if not isinstance(value, tuple) or len(value) not in (2, 3):
        return False
    loose = loose_rings(net)
    if len(value) == 2:
        return value[0] == "pulls" and are_right_pulls(net, loose, value[1])
    return value[0] == "lower" and are_right_moves(net, loose, value[1], value[2])


def does_hang(net):
    """Whether the net hangs."""
    return hangs(net)[0] == "pulls"


def lower(net):
    """A placement with a greater score than the picture's; None if the net hangs."""
    told = hangs(net)
    return None if told[0] == "pulls" else moved(net, told[1], told[2])
