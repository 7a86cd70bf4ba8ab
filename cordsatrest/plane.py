"""The plane: at which side of a straight way a spot lies, and which ways have points in common."""

from cordsatrest.ratios import NOUGHT, minus, row_less, row_product


def turned(row):
    """The turn of a row of two: a quarter, against the clock."""
    return (minus(NOUGHT, row[1]), row[0])


def side(one, other, spot):
    """An integer: above 0 if the spot lies left of who goes from one to the other, below 0 if right, 0 if straight."""
    return row_product(turned(row_less(other, one)), row_less(spot, one))[0]


def lies_on(one, other, spot):
    """Whether a spot lies on the straight way from one spot to the other, its ends too."""
    if side(one, other, spot) != 0:
        return False
    return row_product(row_less(one, spot), row_less(other, spot))[0] <= 0


def are_crossed(ways, others):
    """Whether two ways, each a pair of spots, cross: each has its ends at both sides of the other one."""
    one, other = ways
    near, far = others
    if side(one, other, near) * side(one, other, far) >= 0:
        return False
    return side(near, far, one) * side(near, far, other) < 0


def comes_first(at, start, one, other):
    """Whether one comes ahead of the other for who turns with the clock at a spot, from start on.

    The three lie in unlike directions from there.
    """
    right, far_right = side(at, start, one) < 0, side(at, start, other) < 0
    if right != far_right:
        return right
    # both lie within one half, so that less than half a turn parts them
    return side(at, one, other) < 0


def next_corner(corners, number):
    """The number of the next corner against the clock: all others lie left of the way there; None if none is so."""
    for other in range(len(corners)):
        if other != number:
            sides = [side(corners[number], corners[other], spot) for spot in corners]
            if all([sign > 0 or at in (number, other) for at, sign in enumerate(sides)]):
                return other
    return None


def corners_round(spots):
    """The numbers of the spots, against the clock from 0 on; None if not each one is a corner of all."""
    found = [0]
    for _ in spots[1:]:
        after = next_corner(spots, found[-1])
        if after is None or after in found:
            return None
        found.append(after)
    return found
