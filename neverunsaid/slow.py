"""The plain slow meaning of what logs tell: all standings that begin with them are gone through."""

from neverunsaid.arrows import check_logs
from neverunsaid.books import key_of, lines_beyond
from neverunsaid.errors import NoStanding, TooMany
from neverunsaid.trees import check_house

MOST_STANDINGS = 1000


def standings(tree, logs):
    """The ascending list of all standings that begin with the logs and have lines of the logs alone."""
    check_logs(tree, logs)
    lines = _lines_to_make(logs)
    if lines is None:
        return []
    return sorted([rows for rows in _all_reached(tree, lines) if _begins_with(rows, logs)])


def held_slow(tree, logs):
    """The list that has, for each house, the keys of the lines in its row in all these standings."""
    found = _found(tree, logs)
    return [_keys_in_all([rows[house] for rows in found]) for house in range(tree.houses)]


def ahead_slow(tree, logs, house):
    """The list of the tuples (x, z) of keys such that x is ahead of z in each row of a house that has z."""
    check_logs(tree, logs)
    check_house(tree, house)
    found = _found(tree, logs)
    return _pairs_in_all([rows[house] for rows in found])


def _found(tree, logs):
    """All standings that begin with the logs, if there is one."""
    found = standings(tree, logs)
    if len(found) == 0:
        raise NoStanding()
    return found


def _lines_to_make(logs):
    """The lines of the logs by their keys, or None if two of one key are unlike or a lesser number is missing."""
    lines = {}
    for log in logs:
        for line in log:
            if lines.setdefault(key_of(line), line) != line:
                return None
    counts = {}
    for home, number in sorted(lines):
        if number != counts.get(home, 0):
            return None
        counts[home] = number + 1
    return lines


def _all_reached(tree, lines):
    """All standings to which deeds that make only these lines lead, the empty one among them."""
    empty = tuple([() for house in range(tree.houses)])
    reached = {empty: True}
    fresh = [empty]
    while len(fresh) > 0:
        here = fresh.pop()
        for rows in _behind_a_deed(tree, lines, here):
            if rows not in reached:
                if len(reached) == MOST_STANDINGS:
                    raise TooMany(MOST_STANDINGS + 1)
                reached[rows] = True
                fresh.append(rows)
    return list(reached)


def _behind_a_deed(tree, lines, rows):
    """The standings to which one deed leads from a standing."""
    found = []
    for house in range(tree.houses):
        for line in _lines_that_come(tree, lines, rows, house):
            found.append(rows[:house] + (rows[house] + (line,),) + rows[house + 1:])
    return found


def _lines_that_come(tree, lines, rows, house):
    """The lines that one deed brings to a house: the one that it makes, and the next ones under way to it."""
    number = len([line for line in rows[house] if line[0] == house])
    found = [lines[(house, number)]] if (house, number) in lines else []
    for u in tree.near(house):
        # In a standing what came over a road is just the first part of what the other house has to send.
        came = len(lines_beyond(tree, rows[house], u, house))
        found += lines_beyond(tree, rows[u], u, house)[came:came + 1]
    return found


def _begins_with(rows, logs):
    """Whether each row begins with the log of its house."""
    return all([row[:len(log)] == tuple(log) for row, log in zip(rows, logs)])


def _keys_in_all(rows):
    """The ascending list of the keys that all rows of a list have."""
    counts = {}
    for row in rows:
        for line in row:
            counts[key_of(line)] = counts.get(key_of(line), 0) + 1
    return sorted([key for key, count in counts.items() if count == len(rows)])


def _pairs_in_all(rows):
    """The ascending list of the tuples (x, z) of keys such that x is ahead of z in each row of a list that has z."""
    counts = {}
    pairs = {}
    for row in rows:
        keys = [key_of(line) for line in row]
        for at, z in enumerate(keys):
            counts[z] = counts.get(z, 0) + 1
            for x in keys[:at]:
                pairs[(x, z)] = pairs.get((x, z), 0) + 1
    return sorted([(x, z) for (x, z), count in pairs.items() if count == counts[z]])
