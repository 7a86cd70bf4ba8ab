"""The texts of nets that are made of others."""

from cordsatrest.nets import Net, place_of, weight_of


def fraction_word(fraction):
    """The word of a fraction in texts."""
    top, bottom = fraction
    return str(top) if bottom == 1 else f"{top}/{bottom}"


def line_of(words, row):
    """The line of these words, and those of the fractions of a row."""
    return " ".join(words + [fraction_word(part) for part in row])


def net_with(net, places, cords):
    """The net whose rings stand at these places, with these cords; all else as it is."""
    lines = [f"net {net.coords}"]
    for peg in net.pegs:
        lines.append(line_of(["peg", peg], place_of(net, peg)))
    for ring, place in zip(net.rings, places):
        lines.append(line_of(["ring", ring], place + weight_of(net, ring)))
    for one, other in cords:
        lines.append(f"cord {one} {other}")
    return Net("\n".join(lines))
