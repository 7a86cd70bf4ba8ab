"""Flat nets for tests, and what section 16 says of them, worked out anew: by Fractions, and angles of directions."""

import random
from fractions import Fraction
from functools import lru_cache
from itertools import combinations
from math import atan2, pi

from cordsatrest.nets import Net
from support import PEGS, RINGS, drawn, exact, net_of, told, word

# m within a triangle; its pulls, as 2 to 1 to 1, balance there
TENT = net_of(
    'net 2', 'peg a 0 0', 'peg b 4 0', 'peg c 0 4', 'ring m 1 1 0 0', 'cord a m', 'cord b m', 'cord c m',
)
# n hangs by one cord, within the land that goes around it
LOOSE = net_of(
    'net 2', 'peg a 0 0', 'peg b 4 0', 'peg c 0 4', 'ring m 1 1 0 0', 'ring n 1 2 0 0', 'cord a m', 'cord b m', 'cord m n',
)
# two stresses, one along each line through r
CROSS = net_of(
    'net 2', 'peg s 0 -3', 'peg e 2 0', 'peg n 0 2', 'peg w -1 0', 'ring r 0 0 1/2 -1',
    'cord e r', 'cord r n', 'cord w r', 'cord s r',
)
# a tree of cords within a land, and a trunk from a peg; the pegs are not told in the sequence of the rim
TREE = net_of(
    'net 2', 'peg a 0 0', 'peg c 9 9', 'peg b 9 0', 'peg d 0 9', 'ring r 3 3 0 0', 'ring s 5 5 0 0', 'ring t 6 4 0 0',
    'ring u 4 6 0 0', 'ring v 2 7 1 0', 'cord a r', 'cord s r', 'cord s t', 'cord u s', 'cord v d',
)
BARE = net_of('net 2', 'peg a 0 0', 'peg b 0 -5/7', 'peg c 1 -1/3', 'peg d -3 1/60')
LINE = net_of('net 2', 'peg a 0 0', 'peg b 4 0', 'peg c 4 3', 'peg d 0 3', 'ring r 1 1 0 0', 'ring s 3 2 0 0',
              'cord r a', 'cord d r', 'cord r s', 'cord b s', 'cord s c')
SMALL = (TENT, LOOSE, CROSS, TREE, BARE, LINE)

SQUARE = ['net 2', 'peg a 0 0', 'peg b 6 0', 'peg c 6 6', 'peg d 0 6']
TRIANGLE = ['net 2', 'peg a 0 0', 'peg b 4 0', 'peg c 0 4']
NOT_FLAT = {
    'one coordinate': ['net 1', 'peg a 0', 'peg b 4', 'peg c 9', 'ring r 1 0', 'cord a r'],
    'three coordinates': ['net 3', 'peg a 0 0 0', 'peg b 4 0 0', 'peg c 0 4 0', 'ring r 1 1 0 0 0 0', 'cord a r'],
    'one peg': ['net 2', 'peg a 0 0'],
    'two pegs': ['net 2', 'peg a 0 0', 'peg b 4 0', 'ring r 2 0 0 0', 'cord a r', 'cord r b'],
    'pegs at one place': TRIANGLE + ['peg d 4 0', 'ring r 1 1 0 0', 'cord r a'],
    'rings at one place': TRIANGLE + ['ring r 1 1 0 0', 'ring s 1 1 0 0', 'cord r a', 'cord s b'],
    'a ring at a peg': TRIANGLE + ['ring r 1 1 0 0', 'ring s 4 0 0 0', 'cord r a', 'cord s a'],
    'a peg within the rim': TRIANGLE + ['peg d 1 1', 'ring r 2 1 0 0', 'cord r a'],
    'the first peg within the rim': ['net 2', 'peg d 1 1', 'peg a 0 0', 'peg b 4 0', 'peg c 0 4'],
    'a peg within a side': TRIANGLE + ['peg d 2 2', 'ring r 1 1 0 0', 'cord r a'],
    'the first peg within a side': ['net 2', 'peg d 2 0', 'peg a 0 0', 'peg b 4 0', 'peg c 0 4'],
    'all pegs on a line': ['net 2', 'peg a 0 0', 'peg b 4 2', 'peg c 2 1'],
    'more pegs on a line': ['net 2', 'peg a 0 0', 'peg b 1 0', 'peg c 2 0', 'peg d 3 0'],
    'a ring on the rim': TRIANGLE + ['ring r 2 0 0 0', 'cord r c'],
    'a ring on the rim, aslant': TRIANGLE + ['ring r 1 3 0 0', 'cord r a'],
    'a ring outside': TRIANGLE + ['ring r 2 3 0 0', 'cord r a'],
    'a ring far outside, in line with a side': TRIANGLE + ['ring r 9 0 0 0', 'cord r c'],
    'cords that cross': SQUARE + ['ring r 2 2 0 0', 'ring s 2 4 0 0', 'cord d r', 'cord a s'],
    'cords of rings that cross': SQUARE + [
        'ring r 2 2 0 0', 'ring s 4 4 0 0', 'ring t 2 4 0 0', 'ring u 4 2 0 0', 'cord r s', 'cord t u', 'cord a r', 'cord b u',
    ],
    'cords that cross by little': SQUARE + [
        'ring r 2 3 0 0', 'ring s 3 3 0 0', 'ring t 2 2 0 0', 'ring u 3 4 0 0', 'cord r s', 'cord t u', 'cord d r', 'cord a t',
    ],
    'cords that touch': SQUARE + ['ring r 2 1 0 0', 'ring s 2 3 0 0', 'ring t 4 3 0 0', 'ring u 2 2 0 0',
                                  'cord r s', 'cord u t', 'cord a r', 'cord b t'],
    'cords that lie upon one another': SQUARE + ['ring r 1 1 0 0', 'ring s 2 2 0 0', 'cord a r', 'cord a s'],
    'cords that overlap': SQUARE + ['ring r 1 3 0 0', 'ring s 2 3 0 0', 'ring t 3 3 0 0', 'ring u 4 3 0 0',
                                    'cord r t', 'cord s u', 'cord a r', 'cord b u'],
    'a cord through a ring': SQUARE + ['ring r 2 2 0 0', 'ring s 1 1 0 0', 'cord a r', 'cord d s'],
    'a cord of rings through a ring': SQUARE + ['ring r 1 3 0 0', 'ring s 3 3 0 0', 'ring t 2 3 0 0', 'cord r s', 'cord a r', 'cord b t'],
    'a ring without a cord': TRIANGLE + ['ring r 1 1 0 0'],
    'a ring with no way to a peg': SQUARE + ['ring r 1 1 0 0', 'ring s 2 3 0 0', 'ring t 3 1 0 0', 'cord a r', 'cord s t'],
}
FLAT = {
    'no rings and no cords': TRIANGLE,
    'pegs in any sequence': ['net 2', 'peg a 0 0', 'peg c 4 4', 'peg b 4 0', 'peg d 0 4', 'ring r 1 2 0 0', 'cord r c'],
    'with the clock': ['net 2', 'peg a 0 0', 'peg b 0 4', 'peg c 4 0'],
    'cords at one end': SQUARE + ['ring r 2 2 0 0', 'ring s 2 4 0 0', 'cord d r', 'cord s r', 'cord a r'],
    'a ring close to the rim': TRIANGLE + ['ring r 2 1/60 0 0', 'cord r c'],
    'a ring as close to the rim as whole numbers let': [
        'net 2', 'peg a 0 0', 'peg b 1 0', 'peg c 3 3', 'peg d -2 3', 'ring r 0 1 0 0', 'cord r a',
    ],
    'a ring close to the rim, aslant': TRIANGLE + ['ring r 119/60 2 5 -7', 'cord a r'],
    'a cord close to a ring': SQUARE + ['ring r 2 2 0 0', 'ring s 1 59/60 0 0', 'cord a r', 'cord b s'],
    'straight on': SQUARE + ['ring r 1 1 0 0', 'ring s 2 2 0 0', 'cord a r', 'cord r s'],
    'straight on, by little': SQUARE + [
        'ring r 1 1 0 0', 'ring s 5/2 1 0 0', 'ring t 3 1 0 0', 'cord a r', 'cord r s', 'cord s t',
    ],
    'cords that would cross, were they longer': SQUARE + ['ring r 2 2 0 0', 'ring s 3 3 0 0', 'cord a r', 'cord s b', 'cord s d'],
}


def cross(one, other):
    return one[0] * other[1] - one[1] * other[0]


def less(one, other):
    return [a - b for a, b in zip(one, other)]


def is_on(one, other, spot):
    """Whether a spot lies on the way from one to other, ends too."""
    way, part = less(other, one), less(spot, one)
    if cross(way, part) != 0:
        return False
    share = sum(a * b for a, b in zip(way, part)) / Fraction(sum(a * a for a in way))
    return 0 <= share <= 1


def common_points(one, other, near, far):
    """Whether two ways have a point in common, ends too."""
    way, back = less(other, one), less(far, near)
    if cross(way, back) == 0:
        return any(is_on(one, other, spot) for spot in (near, far)) or any(is_on(near, far, spot) for spot in (one, other))
    share = Fraction(cross(less(near, one), back)) / cross(way, back)
    rest = Fraction(cross(less(near, one), way)) / cross(way, back)
    return 0 <= share <= 1 and 0 <= rest <= 1


def is_surrounded(spot, others):
    """Whether a spot lies strictly within the hull of others: none of the lines to them has all at one side."""
    ways = [less(other, spot) for other in others]
    for way in ways:
        turns = [cross(way, other) for other in ways]
        if min(turns) >= 0 or max(turns) <= 0:
            return False
    return True


def is_corner(spot, others):
    """Whether a spot is a corner of the hull of it and others: it lies in no triangle and on no way of others."""
    if any(is_on(one, other, spot) for one, other in combinations(others, 2)):
        return False
    return not any(is_surrounded(spot, three) for three in combinations(others, 3))


def expected_flat(net):
    """Whether a net is flat, by the words."""
    places = drawn(net)
    if net.coords != 2 or len(net.pegs) < 3 or len(set(map(tuple, places.values()))) < len(places):
        return False
    pegs = {name: places[name] for name in net.pegs}
    for name in pegs:
        if not is_corner(pegs[name], [place for other, place in pegs.items() if other != name]):
            return False
    if not all(is_surrounded(places[ring], list(pegs.values())) for ring in net.rings):
        return False
    return are_clear(places, net.cords) and are_led(net)


def are_clear(places, cords):
    """Whether cords have nothing in common but common ends, and go through no further places."""
    for one, other in cords:
        if any(is_on(places[one], places[other], places[name]) for name in places if name not in (one, other)):
            return False
    for (one, other), (near, far) in combinations(cords, 2):
        if not {one, other} & {near, far} and common_points(*[places[name] for name in (one, other, near, far)]):
            return False
    return True


def are_led(net):
    """Whether from each ring a way of cords leads to a peg."""
    led = set(net.pegs)
    for _ in net.rings:
        led |= {name for cord in net.cords if set(cord) & led for name in cord}
    return led >= set(net.rings)


def expected_rim(net):
    """The pegs against the clock, by their directions from their middle."""
    places = drawn(net)
    middle = [sum(places[peg][at] for peg in net.pegs) / len(net.pegs) for at in (0, 1)]
    pegs = sorted(net.pegs, key=lambda peg: direction(middle, places[peg]))
    at = pegs.index(net.pegs[0])
    return tuple(pegs[at:] + pegs[:at])


def direction(start, end):
    return atan2(float(end[1] - start[1]), float(end[0] - start[0]))


def expected_walks(net):
    """The round walks, by numbers: at each place the next way with the clock is taken."""
    return walks_of(net.text)


@lru_cache(maxsize=None)
def walks_of(text):
    net = Net(text)
    places, names = drawn(net), net.pegs + net.rings
    rim = expected_rim(net)
    ways = list(net.cords) + list(zip(rim, rim[1:] + rim[:1]))
    ways += [(other, one) for one, other in ways]
    after = {}
    for name in names:
        around = sorted([far for one, far in ways if one == name], key=lambda far: direction(places[name], places[far]))
        for at, far in enumerate(around):
            after[far, name] = name, around[at - 1]
    outside = set(zip(rim[1:] + rim[:1], rim))
    found = {}
    for step in ways:
        if step not in outside:
            walk = [step]
            while after[walk[-1]] != step:
                walk.append(after[walk[-1]])
            assert not outside & set(walk)
            numbers = [names.index(one) for one, _ in walk]
            turned = min((numbers[at:] + numbers[:at], at) for at in range(len(walk)))[1]
            found[tuple(numbers[turned:] + numbers[:turned])] = walk
    return sorted(found.items())


def expected_lands(net):
    names = net.pegs + net.rings
    return tuple(tuple(names[number] for number in walk) for walk, _ in expected_walks(net))


def expected_sides(net):
    """For each cord the numbers of the lands at the left and at the right of it."""
    found = []
    for one, other in net.cords:
        left = [at for at, (_, walk) in enumerate(expected_walks(net)) if (one, other) in walk]
        right = [at for at, (_, walk) in enumerate(expected_walks(net)) if (other, one) in walk]
        found.append((left[0], right[0]))
    return tuple(found)


def expected_lands_at(net, spot):
    """The lands in which a spot lies, or at whose border, by how far their walks turn around it."""
    places, found, spot = drawn(net), [], exact(spot)
    for number, (_, walk) in enumerate(expected_walks(net)):
        if any(is_on(places[one], places[other], spot) for one, other in walk):
            found.append(number)
            continue
        turn = 0
        for one, other in walk:
            start, end = less(places[one], spot), less(places[other], spot)
            turn += atan2(float(cross(start, end)), float(sum(a * b for a, b in zip(start, end))))
        if turn > pi:
            found.append(number)
    return tuple(found)


def balance_is(net, row):
    """Whether a row of told fractions balances at each ring."""
    places, sums = drawn(net), {name: [0, 0] for name in net.pegs + net.rings}
    for part, (one, other) in zip(exact(row), net.cords):
        way = less(places[other], places[one])
        sums[one] = [a + part * b for a, b in zip(sums[one], way)]
        sums[other] = [a - part * b for a, b in zip(sums[other], way)]
    return all(sums[ring] == [0, 0] for ring in net.rings)


def rank(rows):
    """How many rows of Fractions are no sums of the others."""
    rows, found = [list(row) for row in rows], 0
    for at in range(len(rows[0]) if rows else 0):
        pivot = next((row for row in rows if row[at] != 0), None)
        if pivot is not None:
            found += 1
            rows = [[a - row[at] / Fraction(pivot[at]) * b for a, b in zip(row, pivot)] for row in rows if row is not pivot]
    return found


def equations(net):
    """For each coordinate of each ring what each cord draws there with a stress of 1."""
    places, found = drawn(net), []
    for ring in net.rings:
        for at in (0, 1):
            row = []
            for one, other in net.cords:
                way = places[other][at] - places[one][at]
                row.append(way if ring == one else -way if ring == other else 0)
            found.append(row)
    return found


def stresses_of(net, basis, many=4, seed=5):
    """Some stresses: sums of those of the basis, the last one with numbers of many figures."""
    chance = random.Random(seed)
    found = [((0, 1),) * len(net.cords)]
    for top, bottom in [(5, 4)] * many + [(10 ** 12 - 1, 10 ** 12 - 1)] if basis else []:
        total = [Fraction(0)] * len(net.cords)
        for row in basis:
            part = Fraction(chance.randint(-top, top), chance.randint(1, bottom))
            total = [a + part * b for a, b in zip(total, exact(row))]
        found.append(tuple(told(part) for part in total))
    return found


def spots_for(net, chance, many=6):
    """Places, spots on cords and on sides of the rim, and further ones, within and outside."""
    places = drawn(net)
    found = list(places.values())
    rim = expected_rim(net)
    for one, other in list(net.cords) + list(zip(rim, rim[1:] + rim[:1])):
        share = Fraction(chance.randint(1, 6), 7)
        found.append([a + share * (b - a) for a, b in zip(places[one], places[other])])
    # sums of shares of three places
    for _ in range(many):
        three = [chance.choice(list(places.values())) for _ in range(3)]
        shares = [chance.randint(1, 9) for _ in range(3)]
        found.append([sum(a * b for a, b in zip(shares, row)) / Fraction(sum(shares)) for row in zip(*three)])
    for _ in range(many // 2):
        found.append([Fraction(chance.randint(-30, 30), chance.randint(1, 3)) for _ in range(2)])
    return [tuple(told(part) for part in spot) for spot in found]


def convex(chance, many):
    """So many places in convex position, on two arcs, shuffled."""
    steps = sorted(chance.sample(range(-9, 10), many))
    spots = []
    for at, x in enumerate(steps):
        low = at in (0, many - 1) or chance.random() < 0.5
        spots.append([Fraction(x), Fraction(x * x - 90 if low else 90 - x * x, 9)])
    chance.shuffle(spots)
    return spots


def random_flat(chance, most_cords=9):
    """A flat net of some pegs and rings, with as many cords as come, some of them left out again."""
    while True:
        pegs = convex(chance, chance.randint(3, 6))
        if not all(is_corner(spot, [far for far in pegs if far is not spot]) for spot in pegs):
            continue
        places = dict(zip(PEGS, pegs))
        for name in RINGS[:chance.randint(1, 4)]:
            place = [Fraction(chance.randint(-16, 16), 2) for _ in range(2)]
            if chance.random() < 0.5 and len(places) > len(pegs):
                # straight between two others: so that more stresses come about
                one, other = chance.sample(sorted(places), 2)
                place = [(a + b) / 2 for a, b in zip(places[one], places[other])]
            if is_surrounded(place, pegs) and place not in places.values():
                places[name] = place
        pairs = [pair for pair in combinations(places, 2) if pair[1] in RINGS]
        chance.shuffle(pairs)
        cords = []
        for pair in pairs:
            if len(cords) < most_cords and chance.random() < 0.9 and are_clear(places, cords + [pair]):
                cords.append(tuple(chance.sample(pair, 2)))
        net = flat_net(places, cords)
        if len(net) and are_led(net):
            return net


def flat_net(places, cords):
    lines = ['net 2']
    lines += ['peg {} {}'.format(name, ' '.join(map(word, place))) for name, place in places.items() if name in PEGS]
    lines += ['ring {} {} 0 -1/3'.format(name, ' '.join(map(word, place))) for name, place in places.items() if name in RINGS]
    return net_of(*lines, *['cord {} {}'.format(*cord) for cord in cords])


@lru_cache(maxsize=None)
def random_flats(many, seed=11):
    chance = random.Random(seed)
    return [random_flat(chance) for _ in range(many)]


@lru_cache(maxsize=None)
def creased_flats(many, seed=13):
    """So many flat nets whose pulls, all above 0, balance: lines that cross at rings, and rings within triangles."""
    chance = random.Random(seed)
    found = [TENT, CROSS, LINE]
    while len(found) < many:
        net = random_flat(chance)
        if all(any(part[0] > 0 for part in row) for row in positive_rows(net)):
            found.append(net)
    return found[:many]


def positive_rows(net):
    """For each cord the stresses that are nowhere below 0, and above 0 there: sums of least rows."""
    from support import columns_of, least_sets
    rows = least_sets(columns_of(net, [(ring,) for ring in net.rings]))
    return [[(1, 1) for row in rows if cord in row] for cord in range(len(net.cords))]


def full_arcs():
    """A net at its bounds with pulls above 0 that balance: four times two rings, each tied to two pegs, and to one another."""
    xs, lines = (-7, -5, -3, -1, 1, 3, 5, 7), ['net 2']
    lines += ['peg {} {} {}'.format(name, x, 100 - x * x) for name, x in zip(PEGS[:8], xs)]
    lines += ['peg {} {} {}'.format(name, x, x * x - 100) for name, x in zip(PEGS[8:], xs)]
    rings = list(zip(RINGS, (-6, -2, 2, 6, -6, -2, 2, 6)))
    lines += ['ring {} {} {} 0 -1'.format(name, x, 40 if at < 4 else -40) for at, (name, x) in enumerate(rings)]
    for at, ring in enumerate(RINGS):
        lines += ['cord {} {}'.format(PEGS[2 * at], ring), 'cord {} {}'.format(ring, PEGS[2 * at + 1])]
    lines += ['cord {} {}'.format(RINGS[at], RINGS[at + 4]) for at in range(4)]
    return full(net_of(*lines))


def full(net):
    assert (len(net.pegs), len(net.rings), len(net.cords)) == (16, 8, 20)
    return net


def full_web(seed=2):
    """A net at its bounds with fine fractions: pegs on a parabola, rings in it, cords as they come without crossing."""
    chance = random.Random(seed)
    while True:
        places = {name: [Fraction(at - 7), Fraction((at - 7) ** 2)] for at, name in enumerate(PEGS)}
        for name in RINGS:
            places[name] = [Fraction(chance.randint(-150, 150), 59), Fraction(chance.randint(500, 1000), chance.choice((53, 60, 47)))]
        pairs = [pair for pair in combinations(places, 2) if pair[1] in RINGS]
        chance.shuffle(pairs)
        pairs = sorted(pairs, key=lambda pair: sum(a * a for a in less(places[pair[0]], places[pair[1]])))
        cords = []
        for pair in pairs:
            if len(cords) < 20 and are_clear(places, cords + [pair]):
                cords.append(tuple(chance.sample(pair, 2)))
        net = flat_net(places, cords)
        if expected_flat(net) and len(net.cords) == 20:
            return full(net)


def full_star():
    """A net at its bounds with a ring of many cords, and others above it, each on the one ahead of it."""
    lines = ['net 2'] + ['peg {} {} {}'.format(name, at - 7, (at - 7) ** 2) for at, name in enumerate(PEGS)]
    lines += ['ring {} 0 {} 0 0'.format(name, 10 + 3 * at) for at, name in enumerate(RINGS)]
    cords = ['cord {} {}'.format(PEGS[at], RINGS[0]) for at in range(1, 12)]
    cords += ['cord {} {}'.format(RINGS[at + 1], RINGS[at]) for at in range(7)]
    cords += ['cord {} {}'.format(name, RINGS[7]) for name in 'ap']
    return full(net_of(*lines, *cords))


def full_flats():
    return [full_arcs(), full_web(), full_star()]
