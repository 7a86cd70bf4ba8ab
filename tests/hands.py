"""What section 19 says of deeds, worked out anew, over texts of nets."""

import random
from fractions import Fraction

from cordsatrest.errors import (
    BadPlace, BadWeight, Last, NoCord, NoName, NoPeg, NoRing, Tied, Together, TooMany,
)
from cordsatrest.nets import Net
from support import PEGS, RINGS, expected_held, net_of, told, word

# k hangs on m, which lies between a and b, and on c; as long as it is above m, straight between them
WORKED = net_of(
    'net 2', 'peg a 0 0', 'peg b 4 0', 'peg c 2 4', 'ring m 2 0 0 0', 'ring k 2 2 0 0', 'cord a m', 'cord c k', 'cord k m',
)


class Picture:
    """A net's text as lists that may be changed."""

    def __init__(self, text):
        self.pegs, self.rings, self.cords = [], [], []
        lines = text.split('\n')
        self.coords = int(lines[0].split(' ')[1])
        for line in lines[1:]:
            kind, *words = line.split(' ')
            if kind == 'cord':
                self.cords.append(tuple(words))
            else:
                row = [Fraction(part) for part in words[1:]]
                place, weight = row[:self.coords], row[self.coords:]
                (self.pegs if kind == 'peg' else self.rings).append((words[0], place, weight))

    def text(self):
        lines = ['net {}'.format(self.coords)]
        for kind, parts in (('peg', self.pegs), ('ring', self.rings)):
            lines += [' '.join([kind, name] + list(map(word, place + weight))) for name, place, weight in parts]
        return '\n'.join(lines + ['cord {} {}'.format(*cord) for cord in self.cords])

    def place(self, name):
        return {part[0]: part[1] for part in self.pegs + self.rings}[name]


def names_of(parts):
    return [part[0] for part in parts]


def is_written(value, many):
    """Whether a value is a row of so many fractions that a text can have."""
    if type(value) is not tuple or len(value) != many:
        return False
    for part in value:
        if type(part) is not tuple or len(part) != 2 or not all(type(number) is int for number in part):
            return False
        if not 1 <= part[1] <= 60 or not -1000 <= part[0] <= 1000 or told(Fraction(*part)) != part:
            return False
    return True


def is_in(value, names):
    return type(value) is str and value in names


def after(text, deed):
    """The text behind a deed, or the error and its value, by the words."""
    picture = Picture(text)
    call = {'tie': after_tie, 'cut': after_cut, 'move': after_move, 'weigh': after_weigh, 'pin': after_pin, 'free': after_free}
    found = call[deed[0]](picture, *deed[1:])
    return picture.text() if found is None else found


def after_tie(picture, one, other):
    pegs, rings = names_of(picture.pegs), names_of(picture.rings)
    for name in (one, other):
        if not is_in(name, pegs + rings):
            return NoName, name
    together = picture.place(one) == picture.place(other)
    if not {one, other} & set(rings) or together or {one, other} in map(set, picture.cords):
        return Tied, (one, other)
    if len(picture.cords) == 20:
        return TooMany, 21
    picture.cords.append((one, other))


def after_cut(picture, cord):
    if type(cord) is not int or not 0 <= cord < len(picture.cords):
        return NoCord, cord
    del picture.cords[cord]


def after_move(picture, ring, place):
    if not is_in(ring, names_of(picture.rings)):
        return NoRing, ring
    if not is_written(place, picture.coords):
        return BadPlace, place
    row = [Fraction(*part) for part in place]
    picture.rings = [(name, row if name == ring else own, weight) for name, own, weight in picture.rings]
    for cord, (one, other) in enumerate(picture.cords):
        if picture.place(one) == picture.place(other):
            return Together, cord


def after_weigh(picture, ring, weight):
    if not is_in(ring, names_of(picture.rings)):
        return NoRing, ring
    if not is_written(weight, picture.coords):
        return BadWeight, weight
    row = [Fraction(*part) for part in weight]
    picture.rings = [(name, place, row if name == ring else own) for name, place, own in picture.rings]


def after_pin(picture, ring):
    if not is_in(ring, names_of(picture.rings)):
        return NoRing, ring
    if len(picture.pegs) == 16:
        return TooMany, 17
    picture.pegs.append((ring, picture.place(ring), []))
    picture.rings = [part for part in picture.rings if part[0] != ring]
    pegs = set(names_of(picture.pegs))
    picture.cords = [cord for cord in picture.cords if not set(cord) <= pegs]


def after_free(picture, peg):
    if not is_in(peg, names_of(picture.pegs)):
        return NoPeg, peg
    if len(picture.pegs) == 1:
        return Last, peg
    if len(picture.rings) == 8:
        return TooMany, 9
    picture.rings.append((peg, picture.place(peg), [Fraction(0)] * picture.coords))
    picture.pegs = [part for part in picture.pegs if part[0] != peg]


def fast(text):
    net = Net(text)
    return net.pegs + expected_held(net)


def comes_and_goes(ahead, behind):
    """What a deed tells that leads from one text to another."""
    stood, stand = fast(ahead), fast(behind)
    return tuple(name for name in stand if name not in stood), tuple(name for name in stood if name not in stand)


def deed_words(deed):
    """The line of a deed in journals."""
    if deed[0] in ('move', 'weigh'):
        return ' '.join([deed[0], deed[1]] + [word(Fraction(*part)) for part in deed[2]])
    return ' '.join(map(str, deed))


def random_row(chance, coords):
    return tuple(told(Fraction(chance.randint(-4, 4), chance.choice((1, 1, 1, 2)))) for _ in range(coords))


def random_deed(chance, text, most_cords=8):
    """A deed, perhaps one that is refused; few ties where there are many cords."""
    net = Net(text)
    names, rings, pegs = list(net.pegs + net.rings), list(net.rings) + ['no'], list(net.pegs) + ['none']
    kinds = ['cut', 'move', 'move', 'weigh', 'pin', 'free']
    if len(net.cords) < most_cords:
        kinds += ['tie'] * 5
    kind = chance.choice(kinds)
    if kind == 'tie':
        return 'tie', chance.choice(names + ['no']), chance.choice(names)
    if kind == 'cut':
        return 'cut', chance.randint(-1, len(net.cords))
    if kind == 'free':
        return 'free', chance.choice(pegs)
    if kind == 'pin':
        return 'pin', chance.choice(rings)
    row = random_row(chance, net.coords if chance.random() < 0.95 else 2)
    return kind, chance.choice(rings), row


def do(bench, deed):
    """Do a deed by its method."""
    return getattr(bench, deed[0])(*deed[1:])
