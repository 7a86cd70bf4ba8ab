"""A net while its text is read, line by line."""

from cordsatrest.words import is_name, read_row

MOST_PEGS = 16
MOST_RINGS = 8
MOST_CORDS = 20


class Draft:
    """What the lines that are read so far tell of a net; coords is 0 ahead of the first line."""

    def __init__(self):
        self.coords = 0
        self.pegs = []
        self.rings = []
        self.cords = []
        self.places = {}
        self.weights = {}

    def take(self, line):
        """Add what this line tells, if it can stand here; tell whether it can."""
        words = line.split(" ")
        if self.coords == 0:
            return self.take_head(words)
        if words[0] == "peg":
            return self.take_peg(words)
        if words[0] == "ring":
            return self.take_ring(words)
        return words[0] == "cord" and self.take_cord(words)

    def take_head(self, words):
        """Take the line that tells how many coordinates places have."""
        if len(words) != 2 or words[0] != "net" or words[1] not in ("1", "2", "3"):
            return False
        self.coords = int(words[1])
        return True

    def take_peg(self, words):
        """Take the line of a peg."""
        if self.rings or self.cords or len(self.pegs) >= MOST_PEGS:
            return False
        row = self.new_row(words, self.coords)
        if row is None:
            return False
        self.pegs.append(words[1])
        self.places[words[1]] = row
        return True

    def take_ring(self, words):
        """Take the line of a ring."""
        if not self.pegs or self.cords or len(self.rings) >= MOST_RINGS:
            return False
        row = self.new_row(words, 2 * self.coords)
        if row is None:
            return False
        self.rings.append(words[1])
        self.places[words[1]] = row[:self.coords]
        self.weights[words[1]] = row[self.coords:]
        return True

    def take_cord(self, words):
        """Take the line of a cord."""
        if len(words) != 3 or len(self.cords) >= MOST_CORDS:
            return False
        one, other = words[1], words[2]
        if not self.can_tie(one, other):
            return False
        self.cords.append((one, other))
        return True

    def new_row(self, words, many):
        """The so many fractions behind a name that is new, None if the words are no such line."""
        if len(words) != 2 + many or not is_name(words[1]) or words[1] in self.places:
            return None
        return read_row(words[2:])

    def can_tie(self, one, other):
        """Whether a further cord can have these ends."""
        if one not in self.places or other not in self.places or self.places[one] == self.places[other]:
            return False
        if one not in self.weights and other not in self.weights:
            return False
        return (one, other) not in self.cords and (other, one) not in self.cords
