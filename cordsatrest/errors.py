"""The errors of the package: each keeps its only argument as value."""


class RestError(ValueError):
    """What all errors of the package derive from."""

    def __init__(self, value):
        self.value = value


class BadNet(RestError):
    """The text is no net: the number of the first line that cannot stand, 0 for what is no string."""


class NoName(RestError):
    """Not the name of a peg or a ring of the net."""


class NoCord(RestError):
    """Not the number of a cord of the net."""


class BadPlacement(RestError):
    """Not a placement of the net."""


class BadShare(RestError):
    """Not a fraction from 0 to 1."""


class BadMoves(RestError):
    """Not moves of the net."""


class BadStep(RestError):
    """Not a step."""


class BadPulls(RestError):
    """Not pulls of the net."""


class BadWeighed(RestError):
    """Not a bool that tells whether weights count."""


class BadHeld(RestError):
    """Not held names of the net."""


class TooWide(RestError):
    """More cords than can be gone through: how many they are."""


class NoRing(RestError):
    """Not the name of a ring of the net."""


class NotHung(RestError):
    """The net does not hang."""


class NotBalanced(RestError):
    """The pulls do not balance at every ring."""


class BadRows(RestError):
    """Not rows of the net."""


class BadMore(RestError):
    """Not a tuple with a fraction from 0 on for each cord."""


class BadLack(RestError):
    """Not a fraction from 0 on."""


class BadDirection(RestError):
    """Not a direction of the net."""


class NoLine(RestError):
    """The net does not lie on a line: its number of coordinates."""


class BadWay(RestError):
    """Not a rising way of the net."""


class Adrift(RestError):
    """The first ring from which no pulled cords lead to a peg."""


class TooFine(RestError):
    """The first ring with a coordinate that no text of a net can have."""


class Met(RestError):
    """The number of the first cord whose ends come to one place."""


class NotHeld(RestError):
    """A ring that is not held."""


class Beyond(RestError):
    """The first fraction that no text of a net can have."""


class TooMany(RestError):
    """More than a net can have: how many they would be."""


class Weighed(RestError):
    """A ring with a weight."""


class NotStraight(RestError):
    """A ring that does not lie straight between two others."""


class Tied(RestError):
    """Two names that cannot be tied, or are tied already."""


class BadTable(RestError):
    """Not a table that maps the net."""


class BadKept(RestError):
    """Not the coordinates that a shadow can keep."""


class Together(RestError):
    """The number of the first cord whose ends would lie at one place."""


class Unlike(RestError):
    """A net that cannot be joined with the first one."""


class NotFlat(RestError):
    """The net is not flat."""


class BadSpot(RestError):
    """Not a spot."""


class BadStress(RestError):
    """Not a stress."""


class BadRoof(RestError):
    """Not a roof."""


class BadSecond(RestError):
    """Not a second net."""


class BadSites(RestError):
    """Not sites that fit."""


class BadPlace(RestError):
    """Not a place in the net."""


class BadWeight(RestError):
    """Not a weight in the net."""


class NoPeg(RestError):
    """Not the name of a peg of the net."""


class Last(RestError):
    """The only peg of the net."""


class NothingToUndo(RestError):
    """No deed stands that could be taken back."""


class NothingToRedo(RestError):
    """No deed is taken back that could be done again."""


class NoTrial(RestError):
    """There is no block of a trial around."""


class BadJournal(RestError):
    """The text is no journal: the number of the first line that is refused, 0 for what is no string."""


class BadWords(RestError):
    """A line that the desk does not know."""
