"""Logs that are left: the arrows that they give, and the pictures that tell why no standing begins with them."""

from neverunsaid.books import is_key
from neverunsaid.errors import DoNotFit, InvalidKey, InvalidRows
from neverunsaid.faults import is_place, is_unlike, unlike_fault
from neverunsaid.standings import is_rows
from neverunsaid.trees import check_house
from neverunsaid.webs import Web


def check_logs(tree, logs):
    """Raise InvalidRows unless the logs are rows of the tree."""
    if not is_rows(tree, logs):
        raise InvalidRows(logs)


def web_of(tree, logs):
    """The web of logs, whether or not they fit."""
    check_logs(tree, logs)
    return Web(tree, logs)


def web_that_fits(tree, logs):
    """The web of logs that fit."""
    web = web_of(tree, logs)
    found = _picture_of(web)
    if found is not None:
        raise DoNotFit(found)
    return web


def check_key(web, value):
    """Raise InvalidKey unless the value is the key of a line that some log has."""
    if not is_key(value) or value not in web.ranks:
        raise InvalidKey(value)


def arrows(tree, logs, house):
    """The list of a tuple (x, z, border) for each arrow at a house."""
    web = web_of(tree, logs)
    check_house(tree, house)
    return [(x, z, border) for x in web.ordered for z in web.ordered for border in web.borders(house, x, z)]


def picture(tree, logs):
    """Any picture of the logs, or None if they fit."""
    return _picture_of(web_of(tree, logs))


def is_picture(tree, logs, value):
    """Whether any value is a picture of the logs."""
    web = web_of(tree, logs)
    if not isinstance(value, tuple) or len(value) == 0:
        return False
    if value[0] == "own" and len(value) == 3:
        return _is_own(web, value[1], value[2])
    if value[0] == "unlike" and len(value) == 5:
        return is_unlike(tree, web.logs, (value[1], value[2]), (value[3], value[4]))
    if value[0] == "ring" and len(value) == 4:
        return _is_ring(web, value[1], value[2], value[3])
    return False


def logs_fit(tree, logs):
    """Whether some standing begins with the logs."""
    return picture(tree, logs) is None


def leads_by(web, house, x, z, border):
    """Whether any values are two keys and a border by which an arrow leads from one to the other at a house."""
    # A border has the form of a key: it is a tuple of two integers from 0 on.
    return is_key(x) and is_key(z) and is_key(border) and border in web.borders(house, x, z)


def _picture_of(web):
    """Any picture of the logs of a web, or None if they fit."""
    found = _own_picture(web)
    if found is None:
        found = unlike_fault(web.logs)
    if found is None:
        found = _ring_picture(web)
    return found


def _own_picture(web):
    """A picture of the form ("own", house, at), or None."""
    for house, log in enumerate(web.logs):
        counts = {}
        for at, line in enumerate(log):
            # So far all lines of this home are numbered on from 0, and no log has a key twice.
            if line[1] > counts.get(line[0], 0):
                return ("own", house, at)
            counts[line[0]] = line[1] + 1
    return None


def _ring_picture(web):
    """A picture of the form ("ring", house, borders, keys), or None."""
    for house in range(web.tree.houses):
        keys = web.ring(house)
        if keys is not None:
            borders = [web.borders(house, x, z)[0] for x, z in zip(keys, keys[1:] + keys[:1])]
            return ("ring", house, tuple(borders), keys)
    return None


def _is_own(web, house, at):
    """Whether ("own", house, at) is a picture."""
    if not is_place(web.tree, web.logs, house, at):
        return False
    home, number = web.logs[house][at][:2]
    # Going through all lesser numbers would take too long: they may have twenty figures.
    lesser = [line for line in web.logs[house][:at] if line[0] == home and line[1] < number]
    return len(lesser) < number


def _is_ring(web, house, borders, keys):
    """Whether ("ring", house, borders, keys) is a picture."""
    if house not in web.tree or not isinstance(borders, tuple) or not isinstance(keys, tuple):
        return False
    if len(borders) not in (2, 3) or len(keys) != len(borders):
        return False
    # No arrow leads from a key to itself, and in a ring of two or three each key is next to all others.
    around = keys[1:] + keys[:1]
    return all([leads_by(web, house, x, z, border) for x, z, border in zip(keys, around, borders)])
