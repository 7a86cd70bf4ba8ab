"""Broken: which rings are held still if a cord breaks, and which cords can be spared."""

from cordsatrest.errors import NoCord, NoRing, NotHeld
from cordsatrest.nets import is_cord, is_ring
from cordsatrest.placements import picture
from cordsatrest.rounds import held
from cordsatrest.writing import net_with


def without(net, cord):
    """The net that lacks this cord."""
    if not is_cord(net, cord):
        raise NoCord(cord)
    return net_with(net, picture(net), net.cords[:cord] + net.cords[cord + 1:])


def held_without(net):
    """For each cord, as they stand, the names of the rings that are held if it breaks."""
    return [held(without(net, cord)) for cord in range(len(net.cords))]


def needed(net, ring):
    """The numbers of all cords without which, one by one, this held ring is not held any more."""
    if not is_ring(net, ring):
        raise NoRing(ring)
    if ring not in held(net):
        raise NotHeld(ring)
    return tuple([cord for cord, rings in enumerate(held_without(net)) if ring not in rings])


def lasting(net):
    """The names of all rings that are held whichever one cord breaks."""
    broken = held_without(net)
    return tuple([ring for ring in held(net) if all([ring in rings for rings in broken])])


def spare(net):
    """The numbers of all cords without which, one by one, all rings are held that are held now."""
    own = held(net)
    return tuple([cord for cord, rings in enumerate(held_without(net)) if rings == own])


def bare(net):
    """The net that is left if each cord, from first to last, goes that what is left by then can spare."""
    own = held(net)
    left, at = net, 0
    for _ in net.cords:
        fewer = without(left, at)
        if held(fewer) == own:
            left = fewer
        else:
            at += 1
    return left
