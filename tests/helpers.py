"""What several tests share: values of all kinds, trees, drawn runs, and the examples of the interface."""

import copy
import itertools
import random

from neverunsaid import errors
from neverunsaid.desk import Desk
from neverunsaid.disks import Disk
from neverunsaid.houses import House
from neverunsaid.logs import Log
from neverunsaid.plain import Plain
from neverunsaid.readers import Reader
from neverunsaid.texts import is_line
from neverunsaid.trees import Tree
from neverunsaid.worlds import World


def values_of_all_kinds():
    """Values of all kinds that point [10] names, right and wrong ones for each function."""
    tree = Tree(3, [(0, 1), (1, 2)])
    line = (0, 0, "bell", "rings")
    values = [None, True, False]
    values += [-(10 ** 20) + 1, -2, -1, 0, 1, 2, 3, 4, 15, 16, 17, 10 ** 20 - 1]
    values += ["", " ", "a", "bell", "eightlet", "ninelette", "Bell", "be1l", "be ll", "bell ", "a" * 40, "a" * 41]
    values += ["~", "\n", "\t", "a\n", "a\tb", "\x7f", "0 0 bell rings", "0 0 bell ", "00 0 bell ", "1:", "2: 0-1", "0002ab."]
    values += [[], (), {}, [0], (0,), [0, 1], (0, 1), (1, 0), (False, True), [()], ([],), [[]], [[], [], []], ((), (), ())]
    values += [(0, 1, 2), (0, 1, 2, 3), [(0, 1)], ((0, 1),), [[0, 1]], [(0, 1), (1, 2)], [(0, 1), [1, 2]]]
    values += [[(False, 1), (1, 2)], [(0, True), (1, 2)], [(0, 1), (0, 1)], [(1, 2), (0, 1)], [(1, 0), (1, 2)]]
    values += [line, list(line), line[:3], line + ("",), (True, 0, "a", ""), (0, False, "a", ""), (-1, 0, "a", "")]
    values += [(0, -1, "a", ""), (0, 0, "", ""), (0, 0, "A", ""), (0, 0, "a", "\n"), (0, 0, "a", "b" * 41), (0, 0, "a", None)]
    values += [("0", 0, "a", ""), (0, "0", "a", ""), (0, 0, 0, ""), (0, 0, ["a"], ""), (0, 0, "a", [""]), (0, 0, {"a": 1}, "")]
    values += [[line], (line,), [list(line)], [line, line], [line, None], [line, (1, 0, "a", "")], [(True, 0, "a", "")]]
    values += [[[line], [], []], ((line,), (), ()), [[line], [line], [line]], [[line], [line]], [[line], [line], [line], [line]]]
    values += [[[line, line], [], []], [[(3, 0, "a", "")], [], []], [[], [], [list(line)]], [[], [], {}], [[], [], None]]
    values += [("make", 0, "bell", ""), [("make", 0, "bell", "")], (("make", 0, "bell", ""),), [["make", 0, "bell", ""]]]
    values += [[("make", True, "bell", "")], [("make", 3, "bell", "")], [("make", 0, "Bell", "")], [("make", 0, "bell", "\n")]]
    values += [[("make", 0, "bell")], [("hand", 0, 1)], [("hand", 0, 2)], [("hand", 0, True)], [("hand", 1, 1)], [("hand", 0)]]
    values += [[("hand", 0, 1, 1)], [("hold", 0, 1)], [()], [("hand",)], [(["make"], 0, "a", "")]]
    values += [("own", 0, 0), ("own", True, 0), ["own", 0, 0], ("unlike", 0, 0, 1, 0), ("order", 0, 1, 0), ("order", 0, 1, False)]
    values += [("two", 0, 1, (0, 0), (1, 0)), ("two", 0, 1, [0, 0], (1, 0)), ("two", 0, 1, (False, 0), (1, 0)), ("two",), ("own",)]
    ring = ("ring", 0, ((0, 1), (1, 1)), ((1, 0), (0, 0)))
    values += [ring, list(ring), ("ring", 0, [(0, 1), (1, 1)], ((1, 0), (0, 0))), ("ring", 0, (), ()), ("ring", 0, ((0, 1),), ((0, 0),))]
    values += [("one", 0, (0, 1)), ("one", 0, [0, 1]), ("one", True, (0, 1)), ("two", 0, (0, 1), (1, 0), (0, 1)), ["own"], ("own", 0)]
    values += [(1, 0, 1), (1, 2, 3), (0, 1, 1), (1, 1, 0), (True, 0, 1), (1, False, 1), (1, 0, True), [1, 0, 1], (1, 16, 1), (1, 0)]
    values += [("halt", (1, 0, 1)), ("held", (1, 2, 3), 1, 2, ()), ("take", (1, 2, 3), 1, 0, (line,)), ("have", (1, 2, 3), 1, 0)]
    values += [("halt", [1, 0, 1]), ("held", (1, 2, 3), 1, 2, []), ("take", (1, 2, 3), 0, 0, (line,)), ("halt",), ("halt", None)]
    values += [("tick", 0), ("write", 0, "bell", ""), ("stop", 0, 3), ("tick", True), ["tick", 0], ("tick",), [("tick", 0)], [("rise", 16)]]
    values += [[("bell", "last")], [("bell", "most"), ("door", "sum")], [("bell", "Last")], [["bell", "last"]], ("bell", "last"), "tick 0 "]
    values += [([[], [], []], []), [[[], [], []], []], ([[]], []), (([],), ()), ([[]], [("make", 0, "bell", "")])]
    values += [{"a": 1}, {"a": {"b": [1, (2, None)]}}, [[[[[[[[1]]]]]]]], ((((((((True,)))))),),), [{"own": (0, 0)}], ({}, [{}])]
    values += [tree, Disk(), Log(Disk()), Plain(tree), errors.NoStanding(), errors.InvalidLine(3)]
    values += [House(tree, 0, Disk(), 1), World(tree), Desk(tree), Reader(), [tree], (tree, tree), ("make", tree)]
    return values


def is_int(value):
    """Whether a value is an integer, as point [2] tells."""
    return type(value) is int


def assert_invalid(case, error, given, function, *args, **named):
    """The function raises just this error, with the very object, and leaves the object as it was."""
    before = snapshot(given)
    with case.assertRaises(error) as caught:
        function(*args, **named)
    case.assertIs(type(caught.exception), error)
    case.assertIs(caught.exception.given, given)
    case.assertEqual(snapshot(given), before)


def assert_told(case, wanted, function, *args, **named):
    """The function raises an error of the class of the wanted one, with equal attributes."""
    with case.assertRaises(type(wanted)) as caught:
        function(*args, **named)
    case.assertIs(type(caught.exception), type(wanted))
    case.assertEqual(repr(vars(caught.exception)), repr(vars(wanted)))


def assert_raised(case, wanted, function, *args):
    """The function raises an error like the wanted one, or any error of the wanted class where only that is told."""
    if isinstance(wanted, type) and vars(wanted).get("__init__"):
        with case.assertRaises(wanted):
            function(*args)
    else:
        assert_told(case, wanted() if isinstance(wanted, type) else wanted, function, *args)


def snapshot(value):
    """A copy of a value in which changed lists, at any depth, are told from the value later on."""
    if isinstance(value, (list, tuple)):
        return (type(value).__name__, [snapshot(item) for item in value])
    if isinstance(value, dict):
        return [(name, snapshot(value[name])) for name in value]
    return value if isinstance(value, (int, str)) or value is None else id(value)


def run_examples(case, text):
    """Run examples as the interface of the document shows them."""
    names = {}
    lines = text.strip("\n").split("\n")
    count = 0
    while lines:
        source = lines.pop(0)
        case.assertTrue(source.startswith(">>> "), source)
        told = lines.pop(0) if lines and not lines[0].startswith(">>> ") else None
        count += 1
        if told is None:
            exec(source[4:], names)
        elif told.startswith("raises "):
            assert_raised(case, eval(told[7:], dict(vars(errors))), eval, source[4:], names)
        else:
            case.assertEqual(repr(eval(source[4:], names)), repr(eval(told)), source)
    case.assertGreater(count, 1)


def rows_by_form(tree, value):
    if type(value) not in (list, tuple) or len(value) != tree.houses:
        return False
    for row in value:
        if type(row) not in (list, tuple) or not all(is_line(line) and line[0] < tree.houses for line in row):
            return False
        if len({line[:2] for line in row}) < len(row):
            return False
    return True


def not_rows(tree):
    return [value for value in values_of_all_kinds() if not rows_by_form(tree, value)]


def not_houses(tree):
    return [value for value in values_of_all_kinds() if not is_int(value) or not 0 <= value < tree.houses]


def not_keys(logs):
    """Values of all kinds, and keys near to those of the logs, that are keys of no line that some log has."""
    keys = {line[:2] for log in logs for line in log}
    values = values_of_all_kinds() + [(home, number) for home in range(5) for number in range(5)]
    values += [list(key) for key in keys] + [key + ("a", "") for key in keys] + [(home, number + 10 ** 19) for home, number in keys]
    values += [(bool(home), number) for home, number in keys if home < 2] + [(home, bool(number)) for home, number in keys if number < 2]
    return [value for value in values if repr(value) not in [repr(key) for key in keys]]


def all_trees(houses):
    """All trees of so many houses."""
    roads = list(itertools.combinations(range(houses), 2))
    trees = []
    for chosen in itertools.combinations(roads, houses - 1):
        try:
            trees.append(Tree(houses, list(chosen)))
        except errors.NotJoined:
            pass
    return trees


def row_tree(houses):
    return Tree(houses, [(house, house + 1) for house in range(houses - 1)])


def star_tree(houses, middle=0):
    return Tree(houses, sorted(tuple(sorted((middle, house))) for house in range(houses) if house != middle))


def drawn_tree(draw, houses):
    """A tree that is drawn, with its houses in any order."""
    names = list(range(houses))
    draw.shuffle(names)
    roads = [tuple(sorted((names[at], names[draw.randrange(at)]))) for at in range(1, houses)]
    return Tree(houses, sorted(roads))


def sample_trees():
    """Trees of all shapes: all small ones, and rows, stars and others up to 16 houses."""
    draw = random.Random(7)
    trees = [tree for houses in range(1, 5) for tree in all_trees(houses)]
    for houses in (5, 9, 15, 16):
        trees += [row_tree(houses), star_tree(houses), star_tree(houses, houses - 1)]
        trees += [drawn_tree(draw, houses) for _ in range(3)]
    return trees


def naive_way(tree, a, b):
    """The one way from a to b, found by trying all that pass no house twice."""
    found = []
    paths = [(a,)]
    while paths:
        path = paths.pop()
        if path[-1] == b:
            found.append(path)
        for u, v in tree.roads:
            for here, there in ((u, v), (v, u)):
                if here == path[-1] and there not in path:
                    paths.append(path + (there,))
    (one,) = found
    return one


def naive_side(tree, u, v):
    return [house for house in range(tree.houses) if u in naive_way(tree, house, v)]


def directed_roads(tree):
    return [road for u, v in tree.roads for road in ((u, v), (v, u))]


def drawn_run(draw, tree, lines, deeds):
    """A plain store behind drawn deeds, at most so many, that make at most so many lines."""
    plain = Plain(tree)
    made = 0
    for _ in range(deeds):
        ready = [road for road in directed_roads(tree) if plain.under_way(*road)]
        if made < lines and (not ready or draw.random() < 0.3):
            plain.make(draw.randrange(tree.houses), draw.choice(["a", "bell", "door"]), draw.choice(["", "x", "two words "]))
            made += 1
        elif ready:
            plain.hand(*draw.choice(ready))
    return plain


def spoiled(draw, rows):
    """Rows with one thing changed: a line left out, turned, moved, put in or made unlike."""
    rows = copy.deepcopy(rows)
    row = draw.choice([row for row in rows if row])
    at = draw.randrange(len(row))
    home, number, cell, text = row[at]
    kind = draw.randrange(6)
    if kind == 0:
        del row[at]
    elif kind == 1:
        row.insert(draw.randrange(len(row)), row.pop(at))
    elif kind == 2:
        row[at] = (home, number, cell, text + "!")
    elif kind == 3:
        row[at] = (draw.randrange(len(rows)), number, cell, text)
    elif kind == 4:
        row[at] = (home, number + 1, cell, text)
    else:
        draw.choice(rows).append(row[at])
    return rows
