"""Moves that make cords shorter, and the steps up to which they do."""

from cordsatrest.balance import group_numbers, stretch_at
from cordsatrest.placements import lets_in, moved
from cordsatrest.ratios import (
    ONE, divided, is_noughts, least, led_on, noughts, row_less, row_product, row_sum, row_times, square,
)


def move_of(net, moves, name):
    """The row by which a peg or a ring is moved: noughts for a peg."""
    return moves[net.rings.index(name)] if name in net.rings else noughts(net.coords)


def slip(net, moves, cord):
    """The move of a cord's first end less that of its second one."""
    one, other = net.cords[cord]
    return row_less(move_of(net, moves, one), move_of(net, moves, other))


def closing(net, moves, cord):
    """Half of what the square of a cord's length loses for each bit of step at first."""
    return row_product(stretch_at(net, cord, net.cords[cord][0]), slip(net, moves, cord))


def all_close(net, moves, cords):
    """Whether all these cords become shorter at first."""
    return all([closing(net, moves, cord)[0] > 0 for cord in cords])


def best_step(net, moves, cords):
    """A step by which moves that make all these cords shorter at first still make each of them shorter.

    Up to this step each of them is the shorter, the greater the step is.
    """
    steps = [divided(closing(net, moves, cord), square(slip(net, moves, cord))) for cord in cords]
    return least(steps) if steps else ONE


def are_shorter(net, moves, step, cords):
    """Whether all these cords are shorter than drawn where moves and step put the rings."""
    found = lets_in(net, moved(net, moves, step))
    return all([found[cord][0] > 0 for cord in cords])


def moves_just(net, moves, groups):
    """Whether just the rings of these groups are moved, those of a group alike, no two groups alike."""
    numbers = group_numbers(groups)
    if any([not is_noughts(row) for ring, row in zip(net.rings, moves) if ring not in numbers]):
        return False
    rows = [[move_of(net, moves, ring) for ring in group] for group in groups]
    heads = [row[0] for row in rows]
    if any([is_noughts(head) for head in heads]) or len(set(heads)) < len(heads):
        return False
    return all([len(set(row)) == 1 for row in rows])


def turned_aside(net, moves, groups, factor):
    """The moves times a whole factor, with one more number added at each of these groups: 1, 2 and so on."""
    numbers, found = group_numbers(groups), []
    for ring, row in zip(net.rings, moves):
        if ring in numbers:
            aside = led_on(((numbers[ring] + 1, 1),), net.coords)
            row = row_sum(row_times(row, (factor, 1)), aside)
        found.append(row)
    return tuple(found)


def spread_out(net, moves, groups, cords):
    """Moves of just these groups, no two of them alike, that make all these cords shorter at first, as moves do.

    What is added at the groups weighs the less, the greater the factor is: so a great enough one always does.
    """
    factor = 1
    found = turned_aside(net, moves, groups, factor)
    while not moves_just(net, found, groups) or not all_close(net, found, cords):
        factor = 2 * factor
        found = turned_aside(net, moves, groups, factor)
    return found
