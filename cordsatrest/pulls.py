"""Pulls: what they leave over at rings, and those that balance without weights beside held names."""

from cordsatrest.balance import balance_at, borne_at, column_at, drawn_at, free_cords, most_pulls, pulls_for, singles
from cordsatrest.checks import are_pulls, pull_the_same
from cordsatrest.cones import lowered
from cordsatrest.edges import edges
from cordsatrest.errors import BadHeld, BadPulls, BadWeighed, TooWide
from cordsatrest.ratios import whole

MOST_WIDE = 12


def is_held(net, value):
    """Whether any value is held names."""
    return isinstance(value, tuple) and value == tuple([ring for ring in net.rings if ring in value])


def free_rings(net, held):
    """The names of all rings but the held ones."""
    return [ring for ring in net.rings if ring not in held]


def left_over(net, pulls, weighed):
    """For each ring the sum of pull times stretch over its cords, and its weight besides if weighed."""
    if not are_pulls(net, pulls):
        raise BadPulls(pulls)
    if not isinstance(weighed, bool):
        raise BadWeighed(weighed)
    if weighed:
        return tuple([borne_at(net, pulls, ring) for ring in net.rings])
    return tuple([drawn_at(net, pulls, ring) for ring in net.rings])


def pulled(net, held):
    """Pulls that balance at each free ring, above 0 wherever some such pulls are."""
    if not is_held(net, held):
        raise BadHeld(held)
    pulls, _ = most_pulls(net, singles(free_rings(net, held)))
    return pulls


def shows_pulled(net, held, value):
    """Whether any value is right as what pulled tells."""
    own = pulled(net, held)
    if not are_pulls(net, value):
        return False
    return pull_the_same(own, value) and balance_at(net, value, singles(free_rings(net, held)))


def least_rows(net, held):
    """All least rows of pulls that balance at each free ring: all others are sums of them."""
    if not is_held(net, held):
        raise BadHeld(held)
    free = free_rings(net, held)
    cords, groups = free_cords(net, free), singles(free)
    if len(cords) > MOST_WIDE:
        raise TooWide(len(cords))
    pairs = [whole(column_at(net, cord, groups)) for cord in cords]
    height = len(free) * net.coords
    found = []
    for row in edges([column for column, _ in pairs], height, height):
        amounts = lowered([amount * factor for amount, (_, factor) in zip(row, pairs)])
        found.append(pulls_for(net, cords, amounts, 1))
    return tuple(sorted(found))
