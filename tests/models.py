"""Houses and worlds once more, by the words of the document: slow, plain, and written apart from the package."""

import functools
import random

from helpers import naive_side
from neverunsaid import errors
from neverunsaid.plans import plan


class Sides:
    """The sides of the roads of a tree, each found once."""

    def __init__(self, tree):
        self.tree = tree
        self.of = functools.cache(lambda u, v: naive_side(tree, u, v))


class HouseByWords:
    """A house as points [141] to [152] tell it; `lines` are those of the log on its disk."""

    def __init__(self, tree, number, lines, life):
        self.tree, self.number, self.life = tree, number, life
        self.book, self.stage, self.era, self.known, self.waited = tuple(lines), "risen", None, 0, 0
        self.side = Sides(tree).of
        self.forget()

    def forget(self):
        self.begun, self.told, self.still, self.rows, self.has_taken = False, {}, [], None, []

    def state(self):
        return (self.tree, self.number, self.life, self.book, self.stage, self.era, self.known, self.waited)

    def others(self):
        return [house for house in range(self.tree.houses) if house != self.number]

    def near(self, u):
        return tuple(sorted((u, self.number))) in self.tree.roads

    def came(self, u):
        return [line for line in self.book if line[0] in self.side(u, self.number)]

    def write(self, cell, text):
        if self.stage != "standing":
            raise errors.NotStanding(self.stage)
        line = (self.number, len([line for line in self.book if line[0] == self.number]), cell, text)
        self.book += (line,)
        return line

    def tick(self):
        if self.stage == "standing":
            return [(u, ("have", self.era, self.number, len(self.came(u)))) for u in self.others() if self.near(u)]
        self.waited += 1
        if self.waited > 8 + self.tree.houses + 3 * self.number:
            return self.begin()
        if not self.begun:
            return []
        missing = [h for h in self.others() if h not in self.told]
        if missing:
            return [(h, ("halt", self.era)) for h in missing]
        if self.rows is None:
            return [(h, ("sure", self.era)) for h in self.others() if h not in self.still]
        return [(h, self.part(h)) for h in self.others() if h not in self.has_taken]

    def begin(self):
        self.known += 1
        self.era, self.stage, self.waited = (self.known, self.number, self.life), "held", 0
        self.forget()
        self.begun = True
        self.told[self.number] = (self.life, self.book)
        if self.tree.houses == 1:
            self.stage = "standing"
        return [(h, ("halt", self.era)) for h in self.others()]

    def part(self, h):
        life, lines = self.told[h]
        return ("take", self.era, life, len(lines), tuple(self.rows[h][len(lines):]))

    def take(self, sender, letter):
        era = letter[1]
        before = self.known
        self.known = max(self.known, era[0])
        try:
            return getattr(self, "take_" + letter[0])(sender, *letter[1:])
        except errors.DoNotFit:
            self.known = before
            raise

    def stands_by(self, sender, era, u):
        if era != self.era or self.stage not in ("taken", "standing") or sender != u or not self.near(u):
            return False
        self.stage = "standing"
        return True

    def take_have(self, sender, era, u, count):
        if not self.stands_by(sender, era, u):
            return []
        own = [line for line in self.book if line[0] in self.side(self.number, u)]
        return [(u, ("lines", era, self.number, count, tuple(own[count:])))] if own[count:] else []

    def take_lines(self, sender, era, u, start, lines):
        if self.stands_by(sender, era, u) and start <= len(self.came(u)):
            self.book += lines[len(self.came(u)) - start:]
        return []

    def take_halt(self, sender, era):
        held = ("held", era, self.number, self.life, self.book)
        if self.era is None or self.era < era:
            self.era, self.stage, self.waited = era, "held", 0
            self.forget()
            return [(sender, held)]
        if era == self.era and self.stage == "held" and not self.begun:
            return [(sender, held)]
        return [(sender, ("elder", self.era))] if era < self.era else []

    def take_held(self, sender, era, h, life, lines):
        if h == self.number or not self.begun or era != self.era or h in self.told:
            return []
        self.told[h] = (life, lines)
        self.waited = 0
        return [(h, ("sure", era)) for h in self.others()] if len(self.told) == self.tree.houses else []

    def take_sure(self, sender, era):
        if era == self.era and self.stage == "held" and not self.begun:
            self.waited = 0
            return [(sender, ("still", era, self.number, self.life))]
        return [(sender, ("elder", self.era))] if self.era is not None and era < self.era else []

    def take_still(self, sender, era, h, life):
        if h == self.number or not self.begun or era != self.era or len(self.told) < self.tree.houses or self.rows is not None:
            return []
        if self.told[h][0] != life:
            return []
        rows = None
        if set(self.still + [h]) == set(self.others()):
            rows = plan(self.tree, [list(self.told[house][1]) for house in range(self.tree.houses)])
        self.still.append(h)
        self.waited = 0
        if rows is None:
            return []
        self.rows, self.stage = rows, "taken"
        self.book = tuple(rows[self.number])
        return [(other, self.part(other)) for other in self.others()]

    def take_take(self, sender, era, life, start, lines):
        if era != self.era or life != self.life or self.begun:
            return []
        if self.stage == "held" and start == len(self.book):
            self.book += lines
            self.stage, self.waited = "taken", 0
            return [(sender, ("taken", era, self.number))]
        return [(sender, ("taken", era, self.number))] if self.stage in ("taken", "standing") else []

    def take_taken(self, sender, era, h):
        if h != self.number and self.begun and era == self.era and self.rows is not None:
            self.has_taken.append(h)
            self.waited = 0
            if set(self.has_taken) == set(self.others()):
                self.stage = "standing"
        return []

    def take_elder(self, sender, era):
        if self.stage != "standing" and (self.era is None or self.era < era):
            return self.begin()
        return []


def lines_in(text):
    """The lines of the frames on a disk, read sign by sign, as points [51] and [52] tell."""
    lines = []
    while text[:4].isdigit() and text[4 + int(text[:4]):5 + int(text[:4])] == ".":
        words = text[4:4 + int(text[:4])].split(" ", 3)
        lines.append((int(words[0]), int(words[1]), words[2], words[3]))
        text = text[5 + int(text[:4]):]
    return lines


def text_of(lines):
    texts = [f"{home} {number} {cell} {text}" for home, number, cell, text in lines]
    return "".join(f"{len(text):04d}{text}." for text in texts)


class WorldByWords:
    """A world as points [161] and [162] tell it, with a text for each disk."""

    def __init__(self, tree):
        self.tree, self.letters, self.acts, self.made = tree, [], [], []
        self.texts = [""] * tree.houses
        self.houses = [HouseByWords(tree, h, [], h + 1) for h in range(tree.houses)]
        self.life = tree.houses

    def do(self, act):
        """Do an act with right values, and return what it returns."""
        kind, at = act[:2]
        if kind in ("carry", "drop", "double"):
            if at >= len(self.letters):
                raise errors.NoLetter(at)
        elif (self.houses[at] is None) != (kind in ("cut", "rise")):
            raise (errors.Up if kind in ("cut", "rise") else errors.Down)(at)
        told = getattr(self, kind)(*act[1:])
        self.acts.append(act)
        for h, house in enumerate(self.houses):
            if house is not None:
                self.texts[h] = text_of(house.book)
        return told

    def send(self, sender, sent):
        self.letters += [(sender, to, letter) for to, letter in sent]

    def tick(self, h):
        self.send(h, self.houses[h].tick())

    def write(self, h, cell, text):
        self.made.append(self.houses[h].write(cell, text))
        return self.made[-1]

    def carry(self, k):
        sender, to, letter = self.letters.pop(k)
        if self.houses[to] is not None:
            self.send(to, self.houses[to].take(sender, letter))

    def drop(self, k):
        del self.letters[k]

    def double(self, k):
        self.letters.append(self.letters[k])

    def stop(self, h, keep):
        self.houses[h] = None

    def cut(self, h, many):
        self.texts[h] = self.texts[h][:many]

    def rise(self, h):
        self.life += 1
        self.houses[h] = HouseByWords(self.tree, h, lines_in(self.texts[h]), self.life)


def house_state(house):
    """All that a house of the package tells of itself, as `state` of the one by words."""
    return (house.tree, house.number, house.life, house.book, house.stage, house.era, house.known, house.waited)


MOODS = (
    {"write": 2, "tick": 4, "carry": 12, "drop": 0, "double": 0, "stop": 0, "cut": 1, "rise": 1},
    {"write": 3, "tick": 5, "carry": 14, "drop": 1, "double": 1, "stop": 1, "cut": 1, "rise": 2},
    {"write": 2, "tick": 8, "carry": 16, "drop": 1, "double": 1, "stop": 0.4, "cut": 1, "rise": 3},
    {"write": 4, "tick": 3, "carry": 9, "drop": 2, "double": 3, "stop": 1, "cut": 1, "rise": 1},
)


def drawn_act(draw, world, mood, most_lines=20):
    """An act that can be done in a world of the package, often one that leads on."""
    up = [h for h in range(world.tree.houses) if world.house(h) is not None]
    down = [h for h in range(world.tree.houses) if h not in up]
    stand = [h for h in up if world.house(h).stage == "standing"]
    many = len(world.letters)
    chances = dict(mood)
    ready = {"write": stand if len(world.wrote) < most_lines else [], "tick": up, "stop": up, "cut": down, "rise": down}
    kinds = [kind for kind in chances if ready.get(kind, many)]
    kind = draw.choices(kinds, [chances[kind] + 1e-6 for kind in kinds])[0]
    if kind in ("carry", "drop", "double"):
        # Letters come in their order often enough for mendings to end.
        return (kind, 0 if draw.random() < 0.6 else draw.randrange(many))
    h = draw.choice(ready[kind])
    if kind == "write":
        return (kind, h, draw.choice(["a", "bell"]), draw.choice(["", "x", "7", "two words "]))
    if kind == "stop":
        return (kind, h, draw.choice([0, 1, 7, 10 ** 19]))
    if kind == "cut":
        return (kind, h, draw.choice([0, draw.randrange(len(world.disk(h).text) + 2), draw.randrange(len(world.disk(h).text) + 2), 10 ** 19]))
    return (kind, h)


def do(world, act):
    """Do an act in a world of the package by its method."""
    return getattr(world, act[0])(*act[1:])


def drawn_lines(draw, tree, most):
    """Different lines of the houses of a tree, those of each home numbered on from 0."""
    lines = []
    for _ in range(draw.randrange(most + 1)):
        home = draw.randrange(tree.houses)
        lines.append((home, len([line for line in lines if line[0] == home]), draw.choice("ab"), draw.choice(["", "x"])))
    return lines


def seeded(*numbers):
    return random.Random(str(numbers))
