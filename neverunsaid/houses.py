"""Houses: how one rises on its disk, writes, hands lines on along its roads, and takes part in mendings."""

from neverunsaid.basics import is_life
from neverunsaid.books import copy_of, lines_beyond
from neverunsaid.errors import InvalidCell, InvalidLetter, InvalidLife, InvalidText, NotStanding
from neverunsaid.letters import is_letter
from neverunsaid.logs import Log
from neverunsaid.mending import Mending, wait_of
from neverunsaid.texts import is_cell, is_text
from neverunsaid.trees import are_neighbours, check_house


class House:
    """A house of a tree in one of its lives, from its rise on."""

    def __init__(self, tree, number, disk, life):
        check_house(tree, number)
        if not is_life(life):
            raise InvalidLife(life)
        self.tree = tree
        self.number = number
        self.disk = disk
        self.life = life
        self._log = Log(disk)
        self.book = self._log.lines
        self.stage = "risen"
        self.era = None
        self.known = 0
        self.waited = 0
        # The mending of its era, if the house itself has begun it.
        self._led = None

    def write(self, cell, text):
        """Make the next line of the house."""
        if self.stage != "standing":
            raise NotStanding(self.stage)
        if not is_cell(cell):
            raise InvalidCell(cell)
        if not is_text(text):
            raise InvalidText(text)
        made = [line for line in self.book if line[0] == self.number]
        line = (self.number, len(made), cell, text)
        self._add([line])
        return line

    def shows(self):
        """The copy of its book: the last line of each cell."""
        return copy_of(self.book)

    def tick(self):
        """Let a moment pass, and return the letters that the house sends then."""
        if self.stage == "standing":
            return [(u, self._count_for(u)) for u in self.tree.near(self.number)]
        self.waited += 1
        if self.waited > wait_of(self.tree, self.number):
            return self._begin()
        return [] if self._led is None else self._led.requests()

    def take(self, sender, letter):
        """Take a letter, and return the letters that the house sends for it."""
        check_house(self.tree, sender)
        if not is_letter(self.tree, letter):
            raise InvalidLetter(letter)
        kind, era = letter[:2]
        self.known = max(self.known, era[0])
        if kind in ("have", "lines"):
            return self._take_of_road(sender, letter)
        if kind == "halt":
            return self._take_halt(sender, era)
        if kind == "sure":
            return self._take_sure(sender, era)
        if kind == "take":
            return self._take_part(sender, letter)
        if kind == "elder":
            return self._take_elder(era)
        return self._take_answer(letter)

    def _add(self, lines):
        """Put lines behind the book, which come to the disk at once."""
        self._log.put(lines)
        self.book = self._log.lines

    def _count_for(self, u):
        """The letter that tells a neighbour how many lines came over it."""
        return ("have", self.era, self.number, len(lines_beyond(self.tree, self.book, u, self.number)))

    def _take_of_road(self, sender, letter):
        """Take a letter that tells or asks what came over a road."""
        if letter[1] != self.era or letter[2] != sender or self.stage not in ("taken", "standing"):
            return []
        if not are_neighbours(self.tree, self.number, sender):
            return []
        # Only a house that stands sends such letters, and none does before all have taken their parts.
        self.stage = "standing"
        if letter[0] == "have":
            return self._lines_for(sender, letter[3])
        self._take_lines(sender, letter[3], letter[4])
        return []

    def _lines_for(self, u, count):
        """The letter to a neighbour with the lines that are still to come over to it, as a list of one or none."""
        lines = lines_beyond(self.tree, self.book, self.number, u)[count:]
        if len(lines) == 0:
            return []
        return [(u, ("lines", self.era, self.number, count, tuple(lines)))]

    def _take_lines(self, u, start, lines):
        """Add those of the lines that did not come over a neighbour yet, unless some ahead of them are missing."""
        many = len(lines_beyond(self.tree, self.book, u, self.number))
        if start <= many:
            self._add(lines[many - start:])

    def _begin(self):
        """Begin a mending, and return the letters that ask the others to halt."""
        self.known += 1
        self.era = (self.known, self.number, self.life)
        # Where there is no other house, there is nobody to ask.
        self.stage = "standing" if self.tree.houses == 1 else "held"
        self.waited = 0
        self._led = Mending(self.tree, self.era, self.book)
        return self._led.requests()

    def _is_beyond_own(self, era):
        """Whether an era is greater than the one of this house, if it has any."""
        return self.era is None or self.era < era

    def _take_halt(self, sender, era):
        """Halt for a greater era; tell the log again in the same one."""
        if self._is_beyond_own(era):
            self.era = era
            self.stage = "held"
            self.waited = 0
            self._led = None
        elif era != self.era:
            return [(sender, ("elder", self.era))]
        elif self.stage != "held" or self._led is not None:
            return []
        return [(sender, ("held", era, self.number, self.life, self.book))]

    def _take_sure(self, sender, era):
        """Tell that the house still holds still, if it does."""
        if self._is_beyond_own(era):
            return []
        if era != self.era:
            return [(sender, ("elder", self.era))]
        if self.stage != "held" or self._led is not None:
            return []
        self.waited = 0
        return [(sender, ("still", era, self.number, self.life))]

    def _take_part(self, sender, letter):
        """Take the part of the plan, or tell again that it is taken."""
        _, era, life, start, lines = letter
        if era != self.era or life != self.life or self._led is not None:
            return []
        if self.stage == "held":
            if start != len(self.book):
                return []
            self._add(lines)
            self.stage = "taken"
            self.waited = 0
        return [(sender, ("taken", era, self.number))]

    def _take_elder(self, era):
        """Begin a mending at once, if the house needs one that is beyond this era."""
        if self.stage == "standing" or not self._is_beyond_own(era):
            return []
        return self._begin()

    def _take_answer(self, letter):
        """Take what another house answers in the mending that this one leads."""
        kind, era, house = letter[:3]
        if self._led is None or era != self.era or house == self.number:
            return []
        if kind == "held":
            return self._take_held(house, letter[3], letter[4])
        if kind == "still":
            return self._take_still(house, letter[3])
        if self._led.took(house):
            self.waited = 0
            if self._led.is_done():
                self.stage = "standing"
        return []

    def _take_held(self, house, life, lines):
        """Keep the log of another house; when it is the last one, ask whether all still hold still."""
        if not self._led.tell(house, life, lines):
            return []
        self.waited = 0
        return self._led.requests() if self._led.is_told() else []

    def _take_still(self, house, life):
        """Keep that another house holds still; when it is the last one, hand out the plan."""
        if not self._led.still(house, life):
            return []
        self.waited = 0
        if not self._led.is_planned():
            return []
        self._add(self._led.lines_for(self.number))
        self.stage = "taken"
        return self._led.requests()
