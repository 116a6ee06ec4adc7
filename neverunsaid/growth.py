"""How logs that fit are brought on to a standing."""

from neverunsaid.webs import Web


def brought_on(web, house, lot):
    """The web of logs that fit, where the log of a house has all lines of a lot besides.

    With each line, the lot or the log must have all that is surely ahead of it at the house. Then the new logs fit:
    a line that comes next, when all that is surely ahead of it has come, closes no ring.
    """
    fresh = [key for key in web.members(lot) if key not in web.places[house]]
    # Being surely ahead is an order: what is ahead of a line has fewer lines ahead of it than this one.
    counted = sorted([(len(web.members(web.surely_ahead(house, key))), key) for key in fresh])
    if len(counted) == 0:
        return web
    logs = list(web.logs)
    logs[house] = logs[house] + [web.told[key] for count, key in counted]
    return Web(web.tree, logs)


def filled(web):
    """The standing that begins with the logs of a web, if they fit, and has just what each house surely held."""
    for house in range(web.tree.houses):
        # No house surely holds more or less by this: these lines stand in logs beyond the house anyway.
        web = brought_on(web, house, web.surely_held(house))
    return [list(log) for log in web.logs]
