"""Rounds: which rings are where they are drawn in every placement, and how all others can be moved."""

from cordsatrest.balance import balance_at, free_cords, most_pulls, singles
from cordsatrest.checks import are_moves, are_pulls, is_step, pull_the_same
from cordsatrest.errors import NoCord, NoRing
from cordsatrest.moves import are_shorter, best_step, moves_just, spread_out
from cordsatrest.nets import cords_at, is_cord, is_ring
from cordsatrest.placements import moved


def pulled_rings(net, pulls, rings):
    """Those of the rings at which a cord is pulled."""
    return tuple([ring for ring in rings if any([pulls[cord][0] > 0 for cord in cords_at(net, ring)])])


def rounds(net):
    """The pulls of each round, and the rings that it reaches."""
    found, free = [], list(net.rings)
    while True:
        pulls, _ = most_pulls(net, singles(free))
        rings = pulled_rings(net, pulls, free)
        if not rings:
            return tuple(found)
        found.append((pulls, rings))
        free = [ring for ring in free if ring not in rings]


def is_like_round(net, free, told, value):
    """Whether any value is right in place of the told round, ahead of which these rings are free."""
    if not isinstance(value, tuple) or len(value) != 2:
        return False
    pulls, rings = value
    if not isinstance(rings, tuple) or rings != told[1] or not are_pulls(net, pulls):
        return False
    return pull_the_same(told[0], pulls) and balance_at(net, pulls, singles(free))


def shows_rounds(net, value):
    """Whether any value is right as what rounds tells."""
    own = rounds(net)
    if not isinstance(value, tuple) or len(value) != len(own):
        return False
    free = list(net.rings)
    for told, one in zip(own, value):
        if not is_like_round(net, free, told, one):
            return False
        free = [ring for ring in free if ring not in told[1]]
    return True


def loose_rings(net):
    """The names of the rings that are not held, in the net's sequence."""
    free = list(net.rings)
    for _, rings in rounds(net):
        free = [ring for ring in free if ring not in rings]
    return tuple(free)


def held(net):
    """The names of the held rings, in the net's sequence."""
    loose = loose_rings(net)
    return tuple([ring for ring in net.rings if ring not in loose])


def round_of(net, ring):
    """The number of the round that reaches a ring, from 1 on; None if none does."""
    if not is_ring(net, ring):
        raise NoRing(ring)
    for number, (_, rings) in enumerate(rounds(net), start=1):
        if ring in rings:
            return number
    return None


def alike(net, cord):
    """Whether both ends of a cord are pegs or held rings."""
    if not is_cord(net, cord):
        raise NoCord(cord)
    return cord not in free_cords(net, loose_rings(net))


def loosening(net):
    """(moves, step) that move all rings that are not held, and shorten their cords; None if all are held."""
    loose = loose_rings(net)
    if not loose:
        return None
    groups, cords = singles(loose), free_cords(net, loose)
    _, moves = most_pulls(net, groups)
    moves = spread_out(net, moves, groups, cords)
    return moves, best_step(net, moves, cords)


def shows_loosening(net, value):
    """Whether any value is right as what loosening tells."""
    loose = loose_rings(net)
    if not loose:
        return value is None
    if not isinstance(value, tuple) or len(value) != 2:
        return False
    moves, step = value
    if not are_moves(net, moves) or not is_step(step) or not moves_just(net, moves, singles(loose)):
        return False
    return are_shorter(net, moves, step, free_cords(net, loose))


def further(net):
    """The placement to which loosening puts the rings; None if all rings are held."""
    told = loosening(net)
    return None if told is None else moved(net, told[0], told[1])
