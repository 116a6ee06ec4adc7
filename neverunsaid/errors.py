"""The errors of the package; each keeps the very objects that it was made with.

No error class but UnsaidError has subclasses, so each is told from all others by its name alone.
"""


class UnsaidError(ValueError):
    """What all errors of this package are."""


class InvalidLine(UnsaidError):
    """The value is not a line, or not the line of an act."""

    def __init__(self, given):
        self.given = given


class InvalidText(UnsaidError):
    """The value is not a text of the kind that is asked for."""

    def __init__(self, given):
        self.given = given


class InvalidCell(UnsaidError):
    """The value is not a cell, or not one that counts here."""

    def __init__(self, given):
        self.given = given


class InvalidHouses(UnsaidError):
    """The value is not a number of houses that a tree can have."""

    def __init__(self, given):
        self.given = given


class InvalidRoads(UnsaidError):
    """The value is not the ascending list of the roads of a tree."""

    def __init__(self, given):
        self.given = given


class InvalidHouse(UnsaidError):
    """The value is not a house of the tree."""

    def __init__(self, given):
        self.given = given


class InvalidSigns(UnsaidError):
    """The value is not a string of signs from the space to `~`."""

    def __init__(self, given):
        self.given = given


class InvalidCount(UnsaidError):
    """The value is not an integer within the bounds that are asked for."""

    def __init__(self, given):
        self.given = given


class InvalidLines(UnsaidError):
    """The value is not a list of lines as it is asked for."""

    def __init__(self, given):
        self.given = given


class InvalidScript(UnsaidError):
    """The value is not a list of deeds."""

    def __init__(self, given):
        self.given = given


class InvalidRows(UnsaidError):
    """The value is not rows of the tree."""

    def __init__(self, given):
        self.given = given


class InvalidLater(UnsaidError):
    """The value, passed as what came later, is not rows of the tree."""

    def __init__(self, given):
        self.given = given


class InvalidKey(UnsaidError):
    """The value is not the key of a line that some log has."""

    def __init__(self, given):
        self.given = given


class InvalidLife(UnsaidError):
    """The value is not a life of a house."""

    def __init__(self, given):
        self.given = given


class InvalidLetter(UnsaidError):
    """The value is not a letter between houses of the tree."""

    def __init__(self, given):
        self.given = given


class InvalidActs(UnsaidError):
    """The value is not a list of acts."""

    def __init__(self, given):
        self.given = given


class InvalidAct(UnsaidError):
    """The value is not an act."""

    def __init__(self, given):
        self.given = given


class InvalidKinds(UnsaidError):
    """The value is not kinds."""

    def __init__(self, given):
        self.given = given


class InvalidIndex(UnsaidError):
    """The value is not an index that the reader can forget from."""

    def __init__(self, given):
        self.given = given


class NotJoined(UnsaidError):
    """No way leads from house 0 to the house."""

    def __init__(self, house):
        self.house = house


class NotARoad(UnsaidError):
    """The two houses are not neighbours."""

    def __init__(self, u, v):
        self.u = u
        self.v = v


class NothingUnderWay(UnsaidError):
    """No line is under way over the road from u to v."""

    def __init__(self, u, v):
        self.u = u
        self.v = v


class Stopped(UnsaidError):
    """The deed with this index cannot be done."""

    def __init__(self, at):
        self.at = at


class Faulty(UnsaidError):
    """The rows are not a standing."""

    def __init__(self, fault):
        self.fault = fault


class DoNotFit(UnsaidError):
    """No standing begins with the logs."""

    def __init__(self, picture):
        self.picture = picture


class NotAhead(UnsaidError):
    """The first key is not surely ahead of the second one."""

    def __init__(self, x, z):
        self.x = x
        self.z = z


class SurelyAhead(UnsaidError):
    """The first key is surely ahead of the second one."""

    def __init__(self, x, z):
        self.x = x
        self.z = z


class SameKey(UnsaidError):
    """The two keys are one key."""

    def __init__(self, key):
        self.key = key


class NotHeld(UnsaidError):
    """The house did not surely hold the line with this key."""

    def __init__(self, key):
        self.key = key


class Held(UnsaidError):
    """The house surely held the line with this key."""

    def __init__(self, key):
        self.key = key


class TooMany(UnsaidError):
    """The standings to go through are too many."""

    def __init__(self, count):
        self.count = count


class NoStanding(UnsaidError):
    """There is no standing that begins with the logs."""


class NotStanding(UnsaidError):
    """The house is at another stage than "standing"."""

    def __init__(self, now):
        self.now = now


class Down(UnsaidError):
    """The house is down."""

    def __init__(self, house):
        self.house = house


class Up(UnsaidError):
    """The house is not down."""

    def __init__(self, house):
        self.house = house


class NoLetter(UnsaidError):
    """No letter under way has this index."""

    def __init__(self, k):
        self.k = k


class Refused(UnsaidError):
    """The act with this index cannot be done."""

    def __init__(self, at):
        self.at = at


class NotWhole(UnsaidError):
    """The row of the house lacks a line that another row has."""

    def __init__(self, house):
        self.house = house


class Turned(UnsaidError):
    """The lines do not begin with all that the reader was told."""

    def __init__(self, at):
        self.at = at
