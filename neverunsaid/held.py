"""What each house surely held: the lines that its book has in all standings that begin with the logs that are left."""

from neverunsaid.arrows import check_key, web_that_fits
from neverunsaid.errors import Held, NotHeld
from neverunsaid.growth import filled
from neverunsaid.trees import check_house, on_way


def held(tree, logs):
    """The list that has, for each house, the ascending list of the keys of the lines that it surely held."""
    web = web_that_fits(tree, logs)
    return [web.members(web.surely_held(house)) for house in range(tree.houses)]


def why_held(tree, logs, house, key):
    """Any house whose log has the line with this key, to which the way from the home of the line goes over a house."""
    found = _holders(_asked(tree, logs, house, key), house, key)
    if len(found) == 0:
        raise NotHeld(key)
    return found[0]


def is_why_held(tree, logs, house, key, value):
    """Whether any value is a house as `why_held` tells one."""
    web = _asked(tree, logs, house, key)
    return value in tree and value in _holders(web, house, key)


def standing_lacking(tree, logs, house, key):
    """Any standing that begins with the logs in which the row of a house has no line with this key."""
    web = _asked(tree, logs, house, key)
    if len(_holders(web, house, key)) > 0:
        raise Held(key)
    return filled(web)


def keeps_all(tree, logs):
    """The list of the houses whose logs have all lines that they surely held."""
    web = web_that_fits(tree, logs)
    sure = [web.members(web.surely_held(house)) for house in range(tree.houses)]
    return [house for house, keys in enumerate(sure) if len(keys) == len(web.logs[house])]


def _asked(tree, logs, house, key):
    """The web of the logs, if all that is asked for is right."""
    web = web_that_fits(tree, logs)
    check_house(tree, house)
    check_key(web, key)
    return web


def _holders(web, house, key):
    """The houses whose logs have a line with this key, and to which the way from its home goes over a house."""
    having = [holder for holder, places in enumerate(web.places) if key in places]
    return [holder for holder in having if on_way(web.tree, key[0], holder, house)]
