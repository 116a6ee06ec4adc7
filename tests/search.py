"""What logs tell, by the words of the document alone: searches through deeds, arrows and pictures one by one."""

import functools
import itertools
import random

from helpers import directed_roads, drawn_run, drawn_tree, naive_side, naive_way, row_tree, spoiled, star_tree
from neverunsaid.standings import is_rows
from neverunsaid.trees import Tree


def lines_of(*keys):
    return [(home, number, "bell", "") for home, number in keys]


def keys_in(lines):
    return [line[:2] for line in lines]


def keys_of_logs(logs):
    return sorted({line[:2] for log in logs for line in log})


def next_deeds(tree, sides, rows, lines):
    """The standings one deed behind another one, by the words of point [5]; only the given lines are made."""
    for house, row in enumerate(rows):
        number = len([line for line in row if line[0] == house])
        made = [line for line in lines if line[:2] == (house, number)]
        for u in range(tree.houses):
            if (u, house) in sides:
                under_way = [line for line in rows[u] if line[0] in sides[(u, house)] and line not in row]
                made += under_way[:1]
        for line in made:
            yield rows[:house] + (row + (line,),) + rows[house + 1:]


def all_reached(tree, lines, start=None, keep=None):
    """All standings with these lines that the deeds of the plain store lead to, through standings to be kept alone."""
    sides = {road: naive_side(tree, *road) for road in directed_roads(tree)}
    start = start or ((),) * tree.houses
    reached, fresh = {start}, [start]
    while fresh:
        for rows in next_deeds(tree, sides, fresh.pop(), lines):
            if rows not in reached and (keep is None or keep(rows)):
                reached.add(rows)
                fresh.append(rows)
    return reached


def begin_with(rows, logs):
    return all(tuple(row[:len(log)]) == tuple(log) for row, log in zip(rows, logs))


def standings_from(tree, logs):
    """All standings that begin with the logs and have only lines of them; further lines change nothing that is sure."""
    lines = sorted({line for log in logs for line in log})

    def leads_on(rows):
        return all(tuple(log[:len(row)]) == row[:len(log)] for row, log in zip(rows, logs))

    return sorted(rows for rows in all_reached(tree, lines, keep=leads_on) if begin_with(rows, logs))


def held_by_search(tree, logs, found):
    return [[key for key in keys_of_logs(logs) if all(key in keys_in(rows[house]) for rows in found)]
            for house in range(tree.houses)]


def ahead_by_search(logs, found, house):
    rows = [keys_in(rows[house]) for rows in found]
    keys = keys_of_logs(logs)
    return [(x, z) for x in keys for z in keys if all(x in row[:row.index(z)] for row in rows if z in row)]


def arrows_by_words(tree, logs, house):
    """All arrows at a house, by the words of point [7]."""
    found = []
    for at, log in enumerate(logs):
        for many in range(1, len(log) + 1):
            before = keys_in(log[:many])
            for x, z in itertools.product(before, keys_of_logs(logs)):
                if z not in before and house in naive_way(tree, x[0], at):
                    found.append((x, z, (at, many)))
    return sorted(found)


def pictures_by_words(tree, logs):
    """All pictures of logs, by the words of point [82]."""
    places = [(house, at) for house, log in enumerate(logs) for at in range(len(log))]
    found = []
    for house, at in places:
        home, number = logs[house][at][:2]
        if any((home, less) not in keys_in(logs[house][:at]) for less in range(number)):
            found.append(("own", house, at))
        for other, place in places:
            if logs[house][at][:2] == logs[other][place][:2] and logs[house][at] != logs[other][place]:
                found.append(("unlike", house, at, other, place))
    for house in range(tree.houses):
        arrows = arrows_by_words(tree, logs, house)
        for (x, z, first), (w, y, second) in itertools.product(arrows, arrows):
            if z == w and y == x:
                found.append(("ring", house, (first, second), (x, z)))
            elif z == w:
                found += [("ring", house, (first, second, border), (x, z, y)) for a, b, border in arrows if (a, b) == (y, x)]
    return found


def papers_by_words(tree, logs, house, x, z):
    """All papers for two keys and a house, by the words of point [92]."""
    found = [("own",)] if x[0] == z[0] and x[1] < z[1] else []
    for q in naive_way(tree, z[0], house):
        arrows = arrows_by_words(tree, logs, q)
        found += [("one", q, border) for a, b, border in arrows if (a, b) == (x, z)]
        found += [("two", q, first, w, second) for a, w, first in arrows if a == x for v, b, second in arrows if (v, b) == (w, z)]
    return found


def cut(draw, rows, whole=0.3, none=0.3):
    """Logs that are left of rows: of each row all, nothing or any beginning."""
    logs = []
    for row in rows:
        chance = draw.random()
        many = len(row) if chance < whole else 0 if chance < whole + none else draw.randrange(len(row) + 1)
        logs.append(list(row[:many]))
    return logs


def turned(draw, tree, logs):
    """Logs in which some houses have lines of all logs in an order that is drawn, those of each home numbered on."""
    lines = sorted({line for log in logs for line in log})
    logs = [list(log) for log in logs]
    for house in range(tree.houses):
        if draw.random() < 0.4:
            homes = [line[0] for line in lines if draw.random() < 0.7]
            draw.shuffle(homes)
            logs[house] = []
            for home in homes:
                number = len([line for line in logs[house] if line[0] == home])
                logs[house] += [line for line in lines if line[:2] == (home, number)][:1]
    return logs


def drawn_logs(draw, houses, most_lines, cuts_alone=False):
    """A tree and logs: cut off the books of a plain run, or these turned or spoiled, so that often they do not fit."""
    tree = draw.choice([star_tree(houses, draw.randrange(houses)), row_tree(houses), drawn_tree(draw, houses)])
    logs = cut(draw, drawn_run(draw, tree, draw.randrange(most_lines + 1), draw.randrange(50)).rows(), 0.3, 0.35)
    chance = 1 if cuts_alone or not any(logs) else draw.random()
    if chance < 0.4:
        logs = turned(draw, tree, logs)
    elif chance < 0.55:
        wrong = spoiled(draw, logs)
        logs = wrong if is_rows(tree, wrong) else logs
    return tree, logs


STAR = star_tree(4)
ROW = row_tree(3)
X, Z, W = (1, 0, "bell", "rings"), (2, 0, "door", ""), (3, 0, "bell", "")
A, B, C = (0, 0, "bell", ""), (2, 0, "bell", ""), (0, 1, "door", "x")

# Logs by what is to be seen in them.
KNOWN = {
    "two arrows are needed": (STAR, [[], [X, W], [Z, X], []]),
    "three do not fit, each two do": (STAR, [[], [X, W], [Z, X], [W, Z]]),
    "a ring of two": (STAR, [[Z, X], [], [], [X, Z]]),
    "three houses with turned logs that fit": (ROW, [[A, B], [], [B, A]]),
    "the one between lost its log": (ROW, [[A, C], [], [A, B]]),
    "all lost but one": (ROW, [[], [], [A, B, C]]),
    "the home lost its log": (ROW, [[], [A, B], [B]]),
    "nothing lost": (ROW, [[A, B, C], [B, A, C], [B, A, C]]),
    "all lost": (ROW, [[], [], []]),
    "two unlike lines of one key": (ROW, [[A], [], [A[:3] + ("!",)]]),
    "a lesser number is missing": (ROW, [[A], [C], []]),
    "a lesser number stands behind": (ROW, [[C, A], [], []]),
    "a lesser number is in no log": (ROW, [[], [], [C]]),
    "one house": (Tree(1, []), [[A, C]]),
    "one house with its lines turned": (Tree(1, []), [[C, A]]),
    "one home in two orders": (row_tree(2), [[(0, 0, "a", ""), (0, 1, "a", "")], [(0, 1, "a", ""), (0, 0, "a", "")]]),
    "turned on both sides of a road": (row_tree(2), [[(0, 0, "a", ""), (1, 0, "a", "")], [(1, 0, "a", ""), (0, 0, "a", "")]]),
    "turned the wrong way": (row_tree(2), [[(1, 0, "a", ""), (0, 0, "a", "")], [(0, 0, "a", ""), (1, 0, "a", "")]]),
}


@functools.cache
def small_cases(seed, many, most_lines=4, cuts_alone=False):
    """Trees of 1 to 5 houses, logs in them, and all standings that begin with these."""
    draw = random.Random(seed)
    cases = [] if cuts_alone else list(KNOWN.values())
    for _ in range(many):
        cases.append(drawn_logs(draw, draw.choice([1, 2, 3, 3, 4, 4, 5]), most_lines, cuts_alone))
    return [(tree, logs, standings_from(tree, logs)) for tree, logs in cases]


def fitting_cases(seed, many):
    return [(tree, logs, found) for tree, logs, found in small_cases(seed, many) if found]
