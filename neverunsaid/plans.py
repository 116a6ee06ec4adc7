"""Plans of mending: standings that begin with the logs that are left and have just what each house surely held."""

from neverunsaid.arrows import web_that_fits
from neverunsaid.growth import filled
from neverunsaid.standings import is_standing


def plan(tree, logs):
    """Any standing that begins with the logs and in which each house has just the lines that it surely held."""
    return filled(web_that_fits(tree, logs))


def is_plan(tree, logs, value):
    """Whether any value is a standing as `plan` tells one."""
    web = web_that_fits(tree, logs)
    if not is_standing(tree, value):
        return False
    return all([_is_row(web, house, row) for house, row in enumerate(value)])


def added(tree, logs):
    """The list that has, for each house, the list of the lines behind its log in the plan."""
    return [row[len(log):] for row, log in zip(plan(tree, logs), logs)]


def _is_row(web, house, row):
    """Whether a row begins with the log of a house and has just the lines that this house surely held."""
    lines = [web.told[key] for key in web.members(web.surely_held(house))]
    return list(row[:len(web.logs[house])]) == web.logs[house] and sorted(row) == sorted(lines)
