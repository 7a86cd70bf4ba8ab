"""Where pulls balance, and which pulls can.

Groups are tuples of names, no name in two of them; what is in none of them stands fast. Pulls balance at a
group if all that its rings draw at together comes to noughts: what a cord within a group draws there does.
"""

from cordsatrest.cones import lowered, parted
from cordsatrest.nets import cords_at, place_of, weight_of
from cordsatrest.ratios import NOUGHT, is_noughts, noughts, ratio, row_less, row_sum, row_times, whole


def singles(rings):
    """Each ring as a group by itself."""
    return [(ring,) for ring in rings]


def group_numbers(groups):
    """The number of its group, by name."""
    return {name: number for number, group in enumerate(groups) for name in group}


def stretch_at(net, cord, name):
    """The way from this end of a cord to its other one, as drawn."""
    one, other = net.cords[cord]
    far = other if name == one else one
    return row_less(place_of(net, far), place_of(net, name))


def drawn_at(net, pulls, ring):
    """The sum, over all cords of a ring, of pull times stretch there."""
    total = noughts(net.coords)
    for cord in cords_at(net, ring):
        total = row_sum(total, row_times(stretch_at(net, cord, ring), pulls[cord]))
    return total


def borne_at(net, pulls, ring):
    """All that is left over at a ring, with its weight."""
    return row_sum(drawn_at(net, pulls, ring), weight_of(net, ring))


def balance_at(net, pulls, groups):
    """Whether pulls balance without weights at all these groups."""
    for group in groups:
        total = noughts(net.coords)
        for ring in group:
            total = row_sum(total, drawn_at(net, pulls, ring))
        if not is_noughts(total):
            return False
    return True


def bear_at(net, pulls, rings):
    """Whether pulls balance the weights at all these rings."""
    return all([is_noughts(borne_at(net, pulls, ring)) for ring in rings])


def cords_between(net, groups):
    """The numbers of all cords whose ends are not in one group, nor both in none."""
    numbers = group_numbers(groups)
    return [cord for cord, (one, other) in enumerate(net.cords) if numbers.get(one) != numbers.get(other)]


def free_cords(net, free):
    """The numbers of all cords with an end that is a free ring."""
    return cords_between(net, singles(free))


def column_at(net, cord, groups):
    """What a pull of 1 in this cord draws at the groups, one behind the other."""
    found = []
    for group in groups:
        row = noughts(net.coords)
        for end in net.cords[cord]:
            if end in group:
                row = row_sum(row, stretch_at(net, cord, end))
        found.extend(row)
    return found


def rows_for_groups(net, groups, parts):
    """The integers as rows of the groups, in sequence, for all their rings; noughts for all other rings."""
    numbers, rows = group_numbers(groups), []
    for ring in net.rings:
        if ring in numbers:
            at = numbers[ring] * net.coords
            rows.append(tuple([(part, 1) for part in parts[at:at + net.coords]]))
        else:
            rows.append(noughts(net.coords))
    return tuple(rows)


def pulls_for(net, cords, amounts, bottom):
    """The pulls that are, at these cords, the amounts divided by bottom; 0 at all others."""
    pulls = [NOUGHT] * len(net.cords)
    for cord, amount in zip(cords, amounts):
        pulls[cord] = ratio(amount, bottom)
    return tuple(pulls)


def most_pulls(net, groups):
    """(pulls, moves): pulls balance at the groups, and pull all cords between them that any such pulls pull.

    All other cords are at 0. Moves put nothing but the groups, each as one; they shorten, at first, each cord
    between groups that is not pulled, and leave those that are pulled as long as they are.
    """
    cords = cords_between(net, groups)
    pairs = [whole(column_at(net, cord, groups)) for cord in cords]
    amounts, row = parted([column for column, _ in pairs], len(groups) * net.coords)
    found = lowered([amount * factor for amount, (_, factor) in zip(amounts, pairs)])
    return pulls_for(net, cords, found, 1), rows_for_groups(net, groups, row)


def bearing_pulls(net, loose):
    """(pulls, moves) for the rings that are not held: one of them, and None in place of the other one.

    Pulls balance the weights at these rings, and pull all their cords that any such pulls pull. Moves put
    nothing but these rings; they shorten, at first, all their cords, and raise the score.
    """
    groups = singles(loose)
    cords = free_cords(net, loose)
    pairs = [whole(column_at(net, cord, groups)) for cord in cords]
    # no pulls balance at these rings without weights: so the weights take part in all that comes to noughts
    pairs.append(whole([part for ring in loose for part in weight_of(net, ring)]))
    amounts, row = parted([column for column, _ in pairs], len(loose) * net.coords)
    found = [amount * factor for amount, (_, factor) in zip(amounts, pairs)]
    if found[-1] == 0:
        return None, rows_for_groups(net, groups, row)
    return pulls_for(net, cords, found[:-1], found[-1]), None
