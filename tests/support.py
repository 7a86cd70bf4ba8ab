"""What several tests need: nets, odd values, calls that are refused, and sums by Python's own Fractions."""

import random
from fractions import Fraction
from functools import lru_cache
from itertools import combinations
from math import lcm

from cordsatrest.bench import Bench
from cordsatrest.desk import Desk
from cordsatrest.errors import RestError
from cordsatrest.nets import Net

NONE, ONE = (0, 1), (1, 1)
PEGS = 'abcdefghijklmnop'
RINGS = 'qrstuvwx'
FURTHER_PEGS = ('-3 0', '3 0', '3 6', '3 7', '-9 1', '-9 2', '-9 3')


def net_of(*lines):
    return Net('\n'.join(lines))


def nested(deep):
    """Tuples in one another, this deep."""
    value = ()
    for _ in range(deep - 1):
        value = (value, 1)
    return value


def odd_values():
    """Values of any kind (section 2), none of which is a name, a number of a cord, pulls, or rows of a net."""
    return [
        None, True, False, -1, 20, 10 ** 12 - 1, '', 'Q', 'zzzzzz', 'toolong', '0', '1/2', 'q ', [], [0], ['q'], {},
        {'q': 1}, Net('net 1\npeg a 0\nring q 1 0\ncord a q'), (None,), ('q',), (('q',),), (0,), (True, 1), ([],),
        ({},), (Net('net 1\npeg a 0'),), nested(30), Bench(Net('net 1\npeg a 0')), Desk('bench\nnet 1\npeg a 0'),
        (Bench(Net('net 1\npeg a 0')), Desk('bench\nnet 1\npeg a 0')),
    ]


def not_fractions():
    """Values that are no fractions, though some of them look nearly so."""
    return [
        (2, 4), (0, 2), (1, 0), (1, -1), (-1, -2), (0, -1), (True, 1), (1, True), (False, 1), [1, 1], (1,), (1, 1, 1),
        1, 0, None, '1', ('1', 1), (None, 1), ((1, 1), 1), (), True, {}, nested(30),
    ]


def refused(case, error, value, call, /, *args, **named):
    """Check that the call raises just this error with just this value."""
    with case.assertRaises(RestError) as caught:
        call(*args, **named)
    case.assertIs(type(caught.exception), error)
    case.assertIs(type(caught.exception.value), type(value))
    case.assertEqual(caught.exception.value, value)


def word(number):
    """A Fraction, or an integer, as a net's text has it."""
    return str(Fraction(number))


def random_part(chance, fine):
    return word(Fraction(chance.randint(-6, 6), chance.choice((1, 1, 2, 3)) if fine else 1))


def random_net(chance, coords, pegs, rings, cords, fine=False):
    """A net with so many pegs and rings, and as many cords, perhaps, as are told."""
    lines, places, weighed = ['net {}'.format(coords)], {}, RINGS[:rings]
    for name in PEGS[:pegs]:
        places[name] = [random_part(chance, fine) for _ in range(coords)]
        lines.append('peg {} {}'.format(name, ' '.join(places[name])))
    for name in weighed:
        places[name] = [random_part(chance, fine) for _ in range(coords)]
        weight = [random_part(chance, fine) for _ in range(coords)]
        lines.append('ring {} {} {}'.format(name, ' '.join(places[name]), ' '.join(weight)))
    pairs = [(a, b) for a, b in combinations(places, 2) if b in weighed and places[a] != places[b]]
    chance.shuffle(pairs)
    for pair in pairs[:cords]:
        one, other = chance.sample(pair, 2)
        lines.append('cord {} {}'.format(one, other))
    return Net('\n'.join(lines))


def random_nets(many, most_cords=8, seed=7):
    """So many small nets of one to three coordinates."""
    chance = random.Random(seed)
    found = []
    for number in range(many):
        shape = chance.randint(1, 5), chance.randint(0, 4), chance.randint(0, most_cords)
        found.append(random_net(chance, number % 3 + 1, *shape, fine=number % 2 == 1))
    return found


def knit_net(chance, coords, most_cords):
    """A net in which most rings lie straight between two others, tied to both, with some more cords."""
    places = {name: [Fraction(chance.randint(-4, 4)) for _ in range(coords)] for name in PEGS[:chance.randint(2, 5)]}
    lines = ['net {}'.format(coords)]
    lines += ['peg {} {}'.format(name, ' '.join(map(word, place))) for name, place in places.items()]
    pairs = []
    for name in RINGS[:chance.randint(1, 4)]:
        one, other = chance.sample(sorted(places), 2)
        share = Fraction(1, chance.choice((2, 2, 3)))
        places[name] = [a + share * (b - a) for a, b in zip(places[one], places[other])]
        if chance.random() < 0.2:
            places[name] = [Fraction(chance.randint(-4, 4)) for _ in range(coords)]
        lines.append('ring {} {}'.format(name, ' '.join(list(map(word, places[name])) + ['0'] * coords)))
        pairs += [(name, one), (other, name)]
    further = [pair for pair in combinations(places, 2) if pair[1] in RINGS and not {pair, pair[::-1]} & set(pairs)]
    chance.shuffle(further)
    pairs = [pair for pair in pairs if chance.random() < 0.9] + further[:chance.randint(0, 4)]
    pairs = [(one, other) for one, other in pairs if places[one] != places[other]][:most_cords]
    chance.shuffle(pairs)
    return Net('\n'.join(lines + ['cord {} {}'.format(*pair) for pair in pairs]))


def knit_nets(many, most_cords=9, seed=7):
    """So many such nets of one to three coordinates."""
    chance = random.Random(seed)
    return [knit_net(chance, number % 3 + 1, most_cords) for number in range(many)]


def bound_net(coords, seed=3):
    """A net at its bounds: sixteen pegs, eight rings, twenty cords."""
    net = random_net(random.Random(seed), coords, 16, 8, 20, fine=True)
    assert (len(net.pegs), len(net.rings), len(net.cords)) == (16, 8, 20)
    return net


def grid_net(coords):
    """A net at its bounds with rounds to find: four rings on lines between pegs, four that cords tie to these."""
    spread = {name: [0] * coords for name in PEGS + RINGS}
    for number, name in enumerate(PEGS):
        spread[name][0] = number % 2 * 4
        spread[name][-1] += number // 2 * (10 if coords == 1 else 1)
    for number, name in enumerate(RINGS):
        spread[name][0] = 2 if number < 4 else 1
        spread[name][-1] += number * (10 if coords == 1 else 1)
    lines = ['net {}'.format(coords)]
    lines += ['peg {} {}'.format(name, ' '.join(map(word, spread[name]))) for name in PEGS]
    lines += ['ring {} {}'.format(name, ' '.join(list(map(word, spread[name])) + ['-1/2'] * coords)) for name in RINGS]
    for number, name in enumerate(RINGS):
        lines.append('cord {} {}'.format(PEGS[2 * number], name))
        if number < 4:
            lines.append('cord {} {}'.format(name, PEGS[2 * number + 1]))
    lines += ['cord {} {}'.format(RINGS[at], RINGS[at + 1]) for at in range(7)]
    lines.append('cord q s')
    return Net('\n'.join(lines))


def stairs(many):
    """Rings of which each one lies straight between the one ahead of it and a peg, the first one between two pegs."""
    pegs, rings, cords, at = ['peg a -2 0', 'peg b 2 0'], [], [], [0, 0]
    for number, name in enumerate('rstuvwxy'[:many]):
        rings.append('ring {} {} {} 0 0'.format(name, *at))
        if number == 0:
            cords += ['cord a r', 'cord r b']
        else:
            cords += ['cord {} {}'.format(name, 'rstuvwxy'[number - 1]), 'cord {} {}'.format('cdefghij'[number], name)]
        way = number % 2
        at[1 - way] += 1
        far = list(at)
        far[1 - way] += 1
        if number < many - 1:
            pegs.append('peg {} {} {}'.format('cdefghij'[number + 1], *far))
    return net_of('net 2', *pegs, *rings, *cords)


def full_stairs(coords):
    """The stairs of eight, made a net at its bounds: more cords on the first line and on the last one."""
    lines = stairs(8).text.split('\n')
    lines[10:10] = ['peg {} {}'.format(name, place) for name, place in zip('klmnopq', FURTHER_PEGS)]
    lines[0] = 'net {}'.format(coords)
    if coords == 3:
        lines = [line if line[:4] != 'peg ' else line + ' 0' for line in lines]
        lines = [line if line[:4] != 'ring' else line[:-4] + ' 0 0 0 0' for line in lines]
    net = net_of(*lines, 'cord k r', 'cord r l', 'cord m y', 'cord n y')
    assert (len(net.pegs), len(net.rings), len(net.cords)) == (16, 8, 20)
    return net


def exact(row):
    """A row of told fractions as Fractions."""
    return [Fraction(*part) for part in row]


def told(number):
    """A Fraction as told."""
    return (Fraction(number).numerator, Fraction(number).denominator)


def drawn(net):
    """The place of each peg and ring, read from the net's text."""
    places = {}
    for line in net.text.split('\n')[1:]:
        kind, name, *words = line.split(' ')
        if kind != 'cord':
            places[name] = [Fraction(part) for part in words[:net.coords]]
    return places


def weights(net):
    """The weight of each ring, read from the net's text."""
    found = {}
    for line in net.text.split('\n')[1:]:
        kind, name, *words = line.split(' ')
        if kind == 'ring':
            found[name] = [Fraction(part) for part in words[net.coords:]]
    return found


def put(net, rows):
    """The place of each peg and ring if rings are put to these rows."""
    many = len(rows[0]) if rows else net.coords
    places = {name: place + [Fraction(0)] * (many - net.coords) for name, place in drawn(net).items()}
    places.update(zip(net.rings, map(exact, rows)))
    return places


def square_between(places, one, other):
    return sum((a - b) ** 2 for a, b in zip(places[one], places[other]))


def pulls_at(net, pulls, ring):
    """All that draws at a ring, without weights."""
    places, total = drawn(net), [Fraction(0)] * net.coords
    for pull, (one, other) in zip(exact(pulls), net.cords):
        if ring in (one, other):
            far = other if ring == one else one
            total = [a + pull * (x - y) for a, x, y in zip(total, places[far], places[ring])]
    return total


def single_solution(columns):
    """The numbers, up to a factor, by which whole columns sum to noughts, if there is just one such row; else None."""
    width = len(columns)
    rows, solved, free = [list(row) for row in zip(*columns)], [], []
    for at in range(width):
        pivot = next((row for row in rows if row[at] != 0), None)
        if pivot is None:
            free.append(at)
            continue
        rows = [[pivot[at] * a - row[at] * b for a, b in zip(row, pivot)] for row in rows if row is not pivot]
        solved = [(where, [pivot[at] * a - row[at] * b for a, b in zip(row, pivot)]) for where, row in solved]
        solved.append((at, pivot))
    if len(free) != 1:
        return None
    found = [Fraction(1)] * width
    for where, row in solved:
        found[where] = Fraction(-row[free[0]], row[where])
    return found


def columns_of(net, groups):
    """For each cord between unlike groups of rings (all else is one group more) what a pull of 1 draws at each."""
    places, columns = drawn(net), {}
    for number, (one, other) in enumerate(net.cords):
        near, far = [[at for at, group in enumerate(groups) if name in group] for name in (one, other)]
        if near != far:
            way = [b - a for a, b in zip(places[one], places[other])]
            parts = {tuple(near): way, tuple(far): [-part for part in way]}
            columns[number] = [part for at in range(len(groups)) for part in parts.get((at,), [0] * net.coords)]
    return columns


def least_sets(columns):
    """All least rows of numbers above 0 by which columns sum to noughts, as dicts: by going through all sets.

    Of columns that no fewer of them do so with, only one such row is, up to a factor.
    """
    found, factor = [], lcm(*[part.denominator for column in columns.values() for part in column])
    columns = {key: [int(part * factor) for part in column] for key, column in columns.items()}
    for many in range(1, len(columns) + 1):
        for keys in combinations(columns, many):
            if not any(row.keys() <= set(keys) for row in found):
                row = single_solution([columns[key] for key in keys])
                if row is not None and (all(part > 0 for part in row) or all(part < 0 for part in row)):
                    found.append(dict(zip(keys, [abs(part) for part in row])))
    return found


def pulled_cords(net, free):
    """The numbers of all cords that pulls, balanced at the free rings, pull: such pulls are sums of least ones."""
    return {cord for row in least_sets(columns_of(net, [(ring,) for ring in free])) for cord in row}


def expected_rounds(net):
    """For each round (the set of the cords that it pulls, the rings that it reaches), by section 7's words."""
    return rounds_by_words(net.text)


@lru_cache(maxsize=None)
def rounds_by_words(text):
    net = Net(text)
    found, free = [], list(net.rings)
    while True:
        cords = pulled_cords(net, free)
        ends = [name for cord in cords for name in net.cords[cord]]
        rings = tuple(ring for ring in free if ring in ends)
        if not rings:
            return found
        found.append((cords, rings))
        free = [ring for ring in free if ring not in rings]


def expected_held(net):
    """The held rings, in the net's sequence."""
    reached = [ring for _, rings in expected_rounds(net) for ring in rings]
    return tuple(ring for ring in net.rings if ring in reached)


def expected_bearing(net):
    """The numbers of all cords that pulls, which bear the weights at all rings not held, pull; None if none do so."""
    stays, heavy = expected_held(net), weights(net)
    groups = [(ring,) for ring in net.rings if ring not in stays]
    columns = columns_of(net, groups)
    columns['weights'] = [part for group in groups for part in heavy[group[0]]]
    rows = least_sets(columns)
    if not any('weights' in row for row in rows):
        return None
    return {cord for row in rows for cord in row if cord != 'weights'}


def join(net, parts, cords):
    """The lots behind the joining of all that these cords tie, by going along the cords."""
    ways = {name: {name} for name in net.pegs + net.rings}
    for group in list(parts) + [net.cords[cord] for cord in cords]:
        for name in group:
            ways[name].update(group)
    found, left = [], list(net.pegs + net.rings)
    while left:
        group = {left[0]}
        while any(ways[name] - group for name in group):
            group |= set().union(*(ways[name] for name in group))
        found.append(tuple(name for name in net.pegs + net.rings if name in group))
        left = [name for name in left if name not in group]
    return tuple(found)


def expected_lots(net):
    """(the lots at the beginning, for each round (the set of the cords that it pulls, the lots behind it))."""
    cords, stays = expected_bearing(net), expected_held(net)
    first = join(net, [net.pegs + stays], [])
    parts, found = first, []
    while cords:
        parts = join(net, parts, cords)
        found.append((cords, parts))
        cords = {cord for row in least_sets(columns_of(net, parts[1:])) for cord in row}
    return first, found


def with_weights(net, rows):
    """The net with other weights, by ring; None if a net's text cannot have them."""
    lines = []
    for line in net.text.split('\n'):
        words = line.split(' ')
        if words[0] == 'ring':
            words[2 + net.coords:] = [word(part) for part in rows[words[1]]]
        lines.append(' '.join(words))
    try:
        return Net('\n'.join(lines))
    except RestError:
        return None


def hung_net(chance, net):
    """A net with weights that some pulls bear at all rings that are not held, any ones at the held rings."""
    while True:
        pulls = [told(Fraction(chance.choice((0, 0, 0, 1, 1, 2, 3)), chance.choice((1, 1, 2)))) for _ in net.cords]
        rows = {ring: [-part for part in pulls_at(net, pulls, ring)] for ring in net.rings}
        for ring in expected_held(net):
            rows[ring] = [Fraction(chance.randint(-3, 3)) for _ in range(net.coords)]
        found = with_weights(net, rows)
        if found is not None:
            return found


def hung_nets(many, most_cords=7, seed=7):
    """So many nets that hang, half of them with lines of cords."""
    chance = random.Random(seed)
    plain, knit = random_nets(many, most_cords, seed), knit_nets(many, most_cords, seed)
    return [hung_net(chance, knit[number] if number % 2 else plain[number]) for number in range(many)]
