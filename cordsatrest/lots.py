"""Lots: what stays together, and what stays in its place, in every way in which a net hangs."""

from cordsatrest.balance import balance_at, bear_at, cords_between, group_numbers, most_pulls
from cordsatrest.checks import are_moves, are_pulls, is_step, pull_the_same
from cordsatrest.errors import NoName, NoRing, NotHung
from cordsatrest.hanging import hangs
from cordsatrest.moves import are_shorter, best_step, moves_just, spread_out
from cordsatrest.nets import is_name_of, is_ring
from cordsatrest.placements import moved
from cordsatrest.rounds import loose_rings


def first_lots(net):
    """The lots at the beginning: the pegs' lot, then every ring that is not held."""
    loose = loose_rings(net)
    fast = net.pegs + tuple([ring for ring in net.rings if ring not in loose])
    return (fast,) + tuple([(ring,) for ring in loose])


def joined_lots(net, parts, cords):
    """The lots that come of these parts if all those become one that one of the cords ties."""
    numbers = group_numbers(parts)
    for cord in cords:
        one, other = net.cords[cord]
        first = min(numbers[one], numbers[other])
        later = max(numbers[one], numbers[other])
        numbers = {name: first if numbers[name] == later else numbers[name] for name in numbers}
    found = []
    for number in range(len(parts)):
        part = tuple([name for name in net.pegs + net.rings if numbers[name] == number])
        if part:
            found.append(part)
    return tuple(found)


def lot_rounds(net):
    """The pulls of each round, and the lots behind it."""
    told = hangs(net)
    if told[0] != "pulls":
        raise NotHung(None)
    found, parts, pulls = [], first_lots(net), told[1]
    while True:
        cords = [cord for cord, pull in enumerate(pulls) if pull[0] > 0]
        if not cords:
            return tuple(found)
        parts = joined_lots(net, parts, cords)
        found.append((pulls, parts))
        pulls, _ = most_pulls(net, parts[1:])


def balance_in_round(net, number, parts, pulls):
    """Whether pulls balance as those of this round must; parts are the lots ahead of it."""
    if number == 0:
        return bear_at(net, pulls, [ring for part in parts[1:] for ring in part])
    return balance_at(net, pulls, parts[1:])


def is_like_lot_round(net, told, value):
    """Whether any value tells the lots of this round, with pulls that pull just its cords."""
    if not isinstance(value, tuple) or len(value) != 2:
        return False
    pulls, parts = value
    return are_pulls(net, pulls) and parts == told[1] and pull_the_same(told[0], pulls)


def shows_lot_rounds(net, value):
    """Whether any value is right as what lot_rounds tells."""
    own = lot_rounds(net)
    if not isinstance(value, tuple) or len(value) != len(own):
        return False
    parts = first_lots(net)
    for number, told in enumerate(own):
        if not is_like_lot_round(net, told, value[number]):
            return False
        if not balance_in_round(net, number, parts, value[number][0]):
            return False
        parts = told[1]
    return True


def lots(net):
    """The lots behind all rounds."""
    found = lot_rounds(net)
    return found[-1][1] if found else first_lots(net)


def lot_round(net, one, other):
    """The number of the round behind which two names are first in one lot: 0 at the beginning, None if none."""
    for name in (one, other):
        if not is_name_of(net, name):
            raise NoName(name)
    found = lot_rounds(net)
    behind = [first_lots(net)] + [parts for _, parts in found]
    for number, parts in enumerate(behind):
        numbers = group_numbers(parts)
        if numbers[one] == numbers[other]:
            return number
    return None


def does_stay(net, ring):
    """Whether a ring is in the pegs' lot behind all rounds."""
    if not is_ring(net, ring):
        raise NoRing(ring)
    return ring in lots(net)[0]


def apart(net):
    """(moves, step) that shift all lots but the pegs', no two alike, and shorten all cords between them, or None."""
    groups = lots(net)[1:]
    if not groups:
        return None
    cords = cords_between(net, groups)
    _, moves = most_pulls(net, groups)
    moves = spread_out(net, moves, groups, cords)
    return moves, best_step(net, moves, cords)


def shows_apart(net, value):
    """Whether any value is right as what apart tells."""
    groups = lots(net)[1:]
    if not groups:
        return value is None
    if not isinstance(value, tuple) or len(value) != 2:
        return False
    moves, step = value
    if not are_moves(net, moves) or not is_step(step) or not moves_just(net, moves, groups):
        return False
    return are_shorter(net, moves, step, cords_between(net, groups))


def other_hanging(net):
    """The hanging to which apart puts the rings; None if there is one lot alone."""
    told = apart(net)
    return None if told is None else moved(net, told[0], told[1])
