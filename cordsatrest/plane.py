"""The plane: at which side of a straight way a spot lies, and in which direction. Spots are pairs of integers."""


def way_between(one, other):
    """The way from one spot to the other."""
    return (other[0] - one[0], other[1] - one[1])


def side(one, other, spot):
    """An integer: above 0 if the spot lies left of who goes from one to the other, below 0 if right, 0 if straight."""
    return (other[0] - one[0]) * (spot[1] - one[1]) - (other[1] - one[1]) * (spot[0] - one[0])


def sides_of(one, other, spots):
    """For each of the spots what side tells."""
    x, y = way_between(one, other)
    least = x * one[1] - y * one[0]
    return [x * high - y * far - least for far, high in spots]


def is_between(one, other, spot):
    """Whether a spot that lies straight with two others lies between them, or at one of them."""
    return (one[0] - spot[0]) * (other[0] - spot[0]) + (one[1] - spot[1]) * (other[1] - spot[1]) <= 0


def lies_on(one, other, spot):
    """Whether a spot lies on the straight way from one spot to the other, its ends too."""
    return side(one, other, spot) == 0 and is_between(one, other, spot)


def is_late(way):
    """Whether who turns against the clock, from due east on, comes to this way in the second half of a round."""
    return way[1] < 0 or (way[1] == 0 and way[0] < 0)


def comes_first(one, other):
    """Whether who turns against the clock, from due east on, comes to one way ahead of the other, an unlike one."""
    late, far_late = is_late(one), is_late(other)
    if late != far_late:
        return far_late
    return one[0] * other[1] > one[1] * other[0]


def put_round(row, way, number):
    """Put a number into the row of all (way, number) from a spot, as who turns against the clock comes to the ways."""
    at = 0
    while at < len(row) and comes_first(row[at][0], way):
        at += 1
    row.insert(at, (way, number))


def bent_left(pairs):
    """The numbers that are left of sorted (spot, number), first to last, where the way from spot to spot bends left."""
    found = []
    for spot, number in pairs:
        while len(found) > 1 and side(found[-2][0], found[-1][0], spot) <= 0:
            found.pop()
        found.append((spot, number))
    return [number for _, number in found]


def corners_round(spots):
    """The numbers of the spots, against the clock from 0 on; None if not each one is a corner of all."""
    pairs = sorted([(spot, number) for number, spot in enumerate(spots)])
    found = bent_left(pairs)[:-1] + bent_left(pairs[::-1])[:-1]
    if len(found) < len(spots):
        return None
    first = found.index(0)
    return found[first:] + found[:first]
