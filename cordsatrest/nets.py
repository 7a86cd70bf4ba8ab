"""Nets: a picture of pegs and rings, joined by cords, with a weight at each ring."""

from cordsatrest.drafts import Draft
from cordsatrest.errors import BadNet, NoCord, NoName
from cordsatrest.ratios import is_integer, noughts, row_less, square


def read_draft(text):
    """What the text of a net tells; BadNet with the number of the first line that cannot stand."""
    if not isinstance(text, str):
        raise BadNet(0)
    lines = text.split("\n")
    draft = Draft()
    for number, line in enumerate(lines, start=1):
        if not draft.take(line):
            raise BadNet(number)
    if not draft.pegs:
        raise BadNet(len(lines) + 1)
    return draft


class Net:
    """A net, as its text tells it."""

    def __init__(self, text):
        draft = read_draft(text)
        self.text = text
        self.coords = draft.coords
        self.pegs = tuple(draft.pegs)
        self.rings = tuple(draft.rings)
        self.cords = tuple(draft.cords)
        self._places = draft.places
        self._weights = draft.weights

    def __len__(self):
        return len(self.rings)

    def __eq__(self, other):
        return isinstance(other, Net) and self.text == other.text


def is_cord(net, value):
    """Whether any value is the number of a cord."""
    return is_integer(value) and 0 <= value < len(net.cords)


def is_peg(net, value):
    """Whether any value is the name of a peg."""
    return isinstance(value, str) and value in net.pegs


def is_ring(net, value):
    """Whether any value is the name of a ring."""
    return isinstance(value, str) and value in net.rings


def is_name_of(net, value):
    """Whether any value is the name of a peg or a ring."""
    return isinstance(value, str) and value in net._places


def place_of(net, name):
    """The place of a peg or a ring."""
    if not is_name_of(net, name):
        raise NoName(name)
    return net._places[name]


def places_of(net):
    """The places of all pegs and rings, as they stand, pegs first."""
    return [net._places[name] for name in net.pegs + net.rings]


def weight_of(net, name):
    """The weight of a ring; noughts for a peg."""
    if not is_name_of(net, name):
        raise NoName(name)
    return net._weights.get(name, noughts(net.coords))


def square_of(net, cord):
    """The square of the length of a cord as drawn."""
    if not is_cord(net, cord):
        raise NoCord(cord)
    one, other = net.cords[cord]
    return square(row_less(place_of(net, one), place_of(net, other)))


def far_end(net, cord, name):
    """The other end of a cord, seen from this end."""
    one, other = net.cords[cord]
    return other if name == one else one


def are_tied(net, one, other):
    """Whether a cord has these two ends, in whichever sequence."""
    return (one, other) in net.cords or (other, one) in net.cords


def cords_at(net, name):
    """The numbers of all cords with this end."""
    if not is_name_of(net, name):
        raise NoName(name)
    return tuple([number for number, ends in enumerate(net.cords) if name in ends])
