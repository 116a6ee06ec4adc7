"""What is wrong with rows that are no standing: how a fault is found, and how one that is told is judged.

Rows are passed to these functions only when they are known to be rows of the tree.
"""

from neverunsaid.basics import is_count
from neverunsaid.books import is_key, key_of, keys_beyond
from neverunsaid.trees import are_neighbours, is_beyond


def fault_in(tree, rows):
    """Any fault of the rows, or None if they have none."""
    fault = _own_fault(rows)
    if fault is None:
        fault = unlike_fault(rows)
    if fault is None:
        fault = _order_fault(tree, rows)
    if fault is None:
        fault = _two_fault(tree, rows)
    return fault


def is_fault(tree, rows, value):
    """Whether any value is a fault of the rows."""
    if not isinstance(value, tuple) or len(value) == 0:
        return False
    if value[0] == "own" and len(value) == 3:
        return _is_own(tree, rows, value[1], value[2])
    if value[0] == "unlike" and len(value) == 5:
        return is_unlike(tree, rows, (value[1], value[2]), (value[3], value[4]))
    if value[0] == "order" and len(value) == 4:
        return _is_order(tree, rows, value[1], value[2], value[3])
    if value[0] == "two" and len(value) == 5:
        return _is_two(tree, rows, (value[1], value[2]), value[3], value[4])
    return False


def _own_fault(rows):
    """A fault of the form ("own", house, at), or None."""
    for house, row in enumerate(rows):
        count = 0
        for at, line in enumerate(row):
            if line[0] == house:
                if line[1] != count:
                    return ("own", house, at)
                count += 1
    return None


def unlike_fault(rows):
    """A fault of the form ("unlike", house, at, other, place), or None."""
    places = {}
    for other, row in enumerate(rows):
        for place, line in enumerate(row):
            house, at = places.setdefault(key_of(line), (other, place))
            if rows[house][at] != line:
                return ("unlike", house, at, other, place)
    return None


def _order_fault(tree, rows):
    """A fault of the form ("order", u, v, at), or None."""
    for v in range(tree.houses):
        for u in tree.near(v):
            sent = keys_beyond(tree, rows[u], u, v)
            count = 0
            for at, line in enumerate(rows[v]):
                if is_beyond(tree, u, v, line[0]):
                    if sent[count:count + 1] != [key_of(line)]:
                        return ("order", u, v, at)
                    count += 1
    return None


def _two_fault(tree, rows):
    """A fault of the form ("two", u, v, a, b) of rows without an "order" fault, or None."""
    for u, v in tree.roads:
        from_v = keys_beyond(tree, rows[u], v, u)
        ahead = _counts_ahead(tree, rows[u], u, v)
        count = 0
        for line in rows[v]:
            if is_beyond(tree, v, u, line[0]):
                count += 1
            # Of the lines from v, both rows have the same first ones in the same order: so where u has more of
            # them ahead of this line than v has, the first one too many is ahead at u and behind at v.
            elif ahead[key_of(line)] > count:
                return ("two", u, v, key_of(line), from_v[count])
    return None


def _counts_ahead(tree, row, u, v):
    """For the key of each line of u's side in a row, how many lines of v's side are ahead of it."""
    counts = {}
    count = 0
    for line in row:
        if is_beyond(tree, v, u, line[0]):
            count += 1
        else:
            counts[key_of(line)] = count
    return counts


def _is_own(tree, rows, house, at):
    """Whether ("own", house, at) is a fault."""
    if not is_place(tree, rows, house, at):
        return False
    home, number = key_of(rows[house][at])
    ahead = [line for line in rows[house][:at] if line[0] == house]
    return home == house and number != len(ahead)


def is_unlike(tree, rows, place, other):
    """Whether two places, tuples of a house and an index, have one key and unlike lines."""
    if not is_place(tree, rows, place[0], place[1]) or not is_place(tree, rows, other[0], other[1]):
        return False
    first = rows[place[0]][place[1]]
    second = rows[other[0]][other[1]]
    return key_of(first) == key_of(second) and first != second


def _is_order(tree, rows, u, v, at):
    """Whether ("order", u, v, at) is a fault."""
    if not _is_road(tree, u, v) or not is_place(tree, rows, v, at):
        return False
    line = rows[v][at]
    if not is_beyond(tree, u, v, line[0]):
        return False
    count = len(keys_beyond(tree, rows[v][:at], u, v))
    return keys_beyond(tree, rows[u], u, v)[count:count + 1] != [key_of(line)]


def _is_two(tree, rows, road, a, b):
    """Whether ("two", u, v, a, b) is a fault."""
    u, v = road
    if not _is_road(tree, u, v) or not is_key(a) or not is_key(b):
        return False
    at_u = [key_of(line) for line in rows[u]]
    at_v = [key_of(line) for line in rows[v]]
    if a not in at_u or a not in at_v or b not in at_u or b not in at_v:
        return False
    if not is_beyond(tree, u, v, a[0]) or not is_beyond(tree, v, u, b[0]):
        return False
    return at_u.index(b) < at_u.index(a) and at_v.index(a) < at_v.index(b)


def is_place(tree, rows, house, at):
    """Whether two values are a house and the index of a line in its row."""
    return house in tree and is_count(at) and at < len(rows[house])


def _is_road(tree, u, v):
    """Whether two values are neighbours."""
    return u in tree and v in tree and are_neighbours(tree, u, v)
