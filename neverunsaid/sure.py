"""What is surely ahead: the same in all standings that begin with the logs that are left."""

from neverunsaid.arrows import check_key, leads_by, web_that_fits
from neverunsaid.errors import NotAhead, SameKey, SurelyAhead
from neverunsaid.growth import brought_on, filled
from neverunsaid.trees import check_house, way


def ahead(tree, logs, house):
    """The list of the tuples (x, z) of keys such that x is surely ahead of z at a house."""
    web = web_that_fits(tree, logs)
    check_house(tree, house)
    pairs = []
    for z in web.ordered:
        pairs += [(x, z) for x in web.members(web.surely_ahead(house, z))]
    return sorted(pairs)


def is_ahead(tree, logs, house, x, z):
    """Whether x is surely ahead of z at a house."""
    return _is_sure(_asked(tree, logs, house, x, z), house, x, z)


def why_ahead(tree, logs, house, x, z):
    """Any paper for x and z at a house."""
    paper = _paper(_asked(tree, logs, house, x, z), house, x, z)
    if paper is None:
        raise NotAhead(x, z)
    return paper


def is_paper(tree, logs, house, x, z, value):
    """Whether any value is a paper for x and z at a house."""
    web = _asked(tree, logs, house, x, z)
    if not isinstance(value, tuple) or len(value) == 0:
        return False
    if value[0] == "own" and len(value) == 1:
        return _is_own(x, z)
    if len(value) < 2 or value[1] not in way(tree, z[0], house) or value[1] not in tree:
        return False
    if value[0] == "one" and len(value) == 3:
        return leads_by(web, value[1], x, z, value[2])
    if value[0] == "two" and len(value) == 5:
        w = value[3]
        return leads_by(web, value[1], x, w, value[2]) and leads_by(web, value[1], w, z, value[4])
    return False


def standing_without(tree, logs, house, x, z):
    """Any standing that begins with the logs, with z in the row of the house and x not ahead of it there."""
    web = _asked(tree, logs, house, x, z)
    if x == z:
        raise SameKey(x)
    if _is_sure(web, house, x, z):
        raise SurelyAhead(x, z)
    # Only what must be ahead of z comes to the house ahead of it; if z stands in its log, all of that does, too.
    return filled(brought_on(web, house, web.surely_ahead(house, z) | 1 << web.ranks[z]))


def _asked(tree, logs, house, x, z):
    """The web of the logs, if all that is asked for is right."""
    web = web_that_fits(tree, logs)
    check_house(tree, house)
    check_key(web, x)
    check_key(web, z)
    return web


def _is_sure(web, house, x, z):
    """Whether x is surely ahead of z at a house."""
    return web.surely_ahead(house, z) >> web.ranks[x] & 1 == 1


def _is_own(x, z):
    """Whether two keys have one home, and the first one the lesser number."""
    return x[0] == z[0] and x[1] < z[1]


def _paper(web, house, x, z):
    """Any paper for x and z at a house, or None if x is not surely ahead."""
    if _is_own(x, z):
        return ("own",)
    for q in way(web.tree, z[0], house):
        if web.has_arrow(q, x, z):
            return ("one", q, web.borders(q, x, z)[0])
    for q in way(web.tree, z[0], house):
        for w in web.ordered:
            if web.has_arrow(q, x, w) and web.has_arrow(q, w, z):
                return ("two", q, web.borders(q, x, w)[0], w, web.borders(q, w, z)[0])
    return None
