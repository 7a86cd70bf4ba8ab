"""The texts of nets that are made of others."""

from cordsatrest.nets import Net, place_of, weight_of


def fraction_word(fraction):
    """The word of a fraction in texts."""
    top, bottom = fraction
    return str(top) if bottom == 1 else f"{top}/{bottom}"


def line_of(words, row):
    """The line of these words, and those of the fractions of a row."""
    return " ".join(words + [fraction_word(part) for part in row])


def peg_parts(net):
    """(name, place) of each peg, as they stand."""
    return [(peg, place_of(net, peg)) for peg in net.pegs]


def ring_parts(net):
    """(name, place, weight) of each ring, as they stand."""
    return [(ring, place_of(net, ring), weight_of(net, ring)) for ring in net.rings]


def net_of_parts(coords, pegs, rings, cords):
    """The net with these (name, place) as pegs, (name, place, weight) as rings, and these cords."""
    lines = [f"net {coords}"]
    for peg, place in pegs:
        lines.append(line_of(["peg", peg], place))
    for ring, place, weight in rings:
        lines.append(line_of(["ring", ring], place + weight))
    for one, other in cords:
        lines.append(f"cord {one} {other}")
    return Net("\n".join(lines))


def net_with(net, places, cords):
    """The net whose rings stand at these places, with these cords; all else as it is."""
    rings = [(ring, place, weight_of(net, ring)) for ring, place in zip(net.rings, places)]
    return net_of_parts(net.coords, peg_parts(net), rings, cords)
