"""What a tuple of rows or of pulls for a net must be like."""

from cordsatrest.ratios import is_fraction, is_row
from cordsatrest.words import fits

MOST_COORDS = 12


def is_written_row(net, value):
    """Whether any value is a row with as many fractions as the net has coordinates, all of which its text can have."""
    return is_row(value, net.coords) and all([fits(part) for part in value])


def are_moves(net, value):
    """Whether any value is moves: for each ring a row with as many fractions as the net has coordinates."""
    if not isinstance(value, tuple) or len(value) != len(net.rings):
        return False
    return all([is_row(row, net.coords) for row in value])


def are_rows(net, value):
    """Whether any value is a row for each ring, all of one number of coordinates that a placement can have."""
    if not isinstance(value, tuple) or len(value) != len(net.rings):
        return False
    if not all([isinstance(row, tuple) and net.coords <= len(row) <= MOST_COORDS for row in value]):
        return False
    return all([is_row(row, len(value[0])) for row in value])


def are_pulls(net, value):
    """Whether any value is pulls: for each cord a fraction from 0 on."""
    if not isinstance(value, tuple) or len(value) != len(net.cords):
        return False
    return all([is_fraction(pull) and pull[0] >= 0 for pull in value])


def pull_the_same(one, other):
    """Whether two rows of pulls pull just the same cords."""
    return all([(a[0] > 0) == (b[0] > 0) for a, b in zip(one, other)])


def is_step(value):
    """Whether any value is a step: a fraction above 0."""
    return is_fraction(value) and value[0] > 0
