"""The edges of cones: the rows of integers that all others of a cone are sums of, and no sums of others."""

from cordsatrest.cones import amounts_or_row, cleared, lowered


def signs_of(row, places):
    """An integer with a binary figure 1 for each of these places at which the row is above 0."""
    return sum([1 << number for number, at in enumerate(places) if row[at] > 0])


def are_beside(signs, one, other):
    """Whether no third row is above 0 only where one of these two is: what lies between them is an edge then."""
    both = signs[one] | signs[other]
    for number, sign in enumerate(signs):
        if sign | both == both and number != one and number != other:
            return False
    return True


def cut_through(rows, places, at):
    """The edges of what is 0 at this place, of the cone with these edges, whose rows are from 0 on at the places."""
    signs = [signs_of(row, places) for row in rows]
    above = [number for number, row in enumerate(rows) if row[at] > 0]
    below = [number for number, row in enumerate(rows) if row[at] < 0]
    found = [row for row in rows if row[at] == 0]
    for one in above:
        for other in below:
            if are_beside(signs, one, other):
                found.append(cleared(rows[other], rows[one], at))
    return found


def edges(columns, height, level):
    """The edges of all amounts from 0 on by which the columns sum up to what is 0 at the first so many places.

    Level is how many these are; at the other places, up to the height, the sum is to be from 0 on. Each edge
    is told as a row of the amounts and, behind them, the sum.
    """
    width = len(columns)
    rows = []
    for number, column in enumerate(columns):
        rows.append([1 if at == number else 0 for at in range(width)] + list(column))
    places = list(range(width))
    for at in range(width, width + height):
        found = cut_through(rows, places, at)
        if at >= width + level:
            found.extend([row for row in rows if row[at] > 0])
            places.append(at)
        rows = found
    return rows


def is_sum(row, others):
    """Whether a row is a sum of others, each times a number from 0 on."""
    columns = others + [[-part for part in row]]
    amounts, _ = amounts_or_row(columns, len(row), [False] * len(others) + [True])
    return amounts is not None


def outermost(rows):
    """Those rows that are no sum of others: the rows are of a cone without two contrary ones, lowered, none twice."""
    found = list(rows)
    for row in rows:
        others = [other for other in found if other != row]
        if is_sum(row, others):
            found = others
    return found


def lowered_once(rows):
    """The rows, each divided by the greatest integer that divides it, none twice."""
    return [list(row) for row in sorted({tuple(lowered(row)) for row in rows})]
