"""Amounts from 0 on by which columns of integers sum up to noughts, or a row that speaks against them.

Of some columns either amounts from 0 on, above 0 at a wanted one, sum up to noughts; or a row has products
with all columns that are 0 or more, and above 0 with all wanted ones. A simplex walk finds the one or the other.
Each equation carries a tail: how often each of the first equations went into it. So the row can be read off.
"""

from math import gcd, lcm


def lowered(row):
    """The integers of a row, divided by the greatest one that divides them all."""
    shared = 0
    for part in row:
        shared = gcd(shared, part)
    return [part // shared for part in row] if shared > 1 else row


def cleared(row, by, at):
    """The row times a factor above 0, less so much of the other one (above 0 at this place) that it is 0 there."""
    if row[at] == 0:
        return row
    return lowered([a * by[at] - b * row[at] for a, b in zip(row, by)])


def first_place(row, width):
    """The first place of the first so many that is not 0, None if there is none."""
    for at in range(width):
        if row[at] != 0:
            return at
    return None


def equations(columns, height):
    """For each place of the columns the equation that amounts must fulfil there, with its tail."""
    rows = []
    for at in range(height):
        tail = [1 if at == other else 0 for other in range(height)]
        rows.append([column[at] for column in columns] + tail)
    return rows


def solved(rows, width):
    """The equations, each solved for one amount that no other one has any more, and these amounts' places."""
    done, places = [], []
    for row in rows:
        left = row
        for other, at in zip(done, places):
            left = cleared(left, other, at)
        at = first_place(left, width)
        if at is None:
            continue
        if left[at] < 0:
            left = [-part for part in left]
        done = [cleared(other, left, at) for other in done]
        done.append(left)
        places.append(at)
    return done, places


def entering(goal, width):
    """The first place at which more of an amount would raise the goal, None if there is none."""
    for at in range(width):
        if goal[at] > 0:
            return at
    return None


def leaving(rows, places, enter):
    """The number of the equation that first keeps the entering amount at 0, None if none does.

    All amounts are 0, so all ties are broken alike, by the first place: then the walk never goes in a circle.
    """
    found = None
    for number, row in enumerate(rows):
        if row[enter] > 0 and (found is None or places[number] < places[found]):
            found = number
    return found


def amounts_along(rows, places, enter, width):
    """Whole amounts that fulfil all equations, if nothing keeps the entering one at 0."""
    whole = 1
    for row, at in zip(rows, places):
        whole = lcm(whole, row[at])
    amounts = [0] * width
    amounts[enter] = whole
    for row, at in zip(rows, places):
        amounts[at] = -row[enter] * (whole // row[at])
    return lowered(amounts)


def amounts_or_row(columns, height, wanted):
    """(amounts, None) with an amount above 0 at a wanted column, or (None, row); wanted: a bool for each column."""
    width = len(columns)
    rows, places = solved(equations(columns, height), width)
    goal = [1 if want else 0 for want in wanted] + [0] * height
    for row, at in zip(rows, places):
        goal = cleared(goal, row, at)
    enter = entering(goal, width)
    while enter is not None:
        leave = leaving(rows, places, enter)
        if leave is None:
            return amounts_along(rows, places, enter, width), None
        pivot = rows[leave]
        rows = [row if number == leave else cleared(row, pivot, enter) for number, row in enumerate(rows)]
        places[leave] = enter
        goal = cleared(goal, pivot, enter)
        enter = entering(goal, width)
    return None, lowered([-part for part in goal[width:]])


def parted(columns, height):
    """(amounts, row): each column has either an amount above 0 or a product with row above 0, never both.

    The amounts are from 0 on and sum the columns up to noughts, all products are from 0 on.
    """
    amounts = [0] * len(columns)
    while True:
        more, row = amounts_or_row(columns, height, [amount == 0 for amount in amounts])
        if more is None:
            return lowered(amounts), row
        amounts = [a + b for a, b in zip(amounts, more)]
