"""What explains a world: a run of the plain store that all its disks agree with, and what was made and is gone."""

from neverunsaid.errors import Stopped
from neverunsaid.examiner import rows_left
from neverunsaid.plain import are_deeds, plain_behind
from neverunsaid.plans import is_plan, plan
from neverunsaid.standings import script_to


def explained(world):
    """Any tuple (rows, script): the least standing that begins with what the disks hold, and a script to it."""
    rows = plan(world.tree, rows_left(world))
    return (rows, script_to(world.tree, rows))


def is_explained(world, value):
    """Whether any value is a tuple as `explained` tells one."""
    if not isinstance(value, tuple) or len(value) != 2:
        return False
    rows, script = value
    # A house that stands surely held no more than its log, so its row of a plan can only be its book.
    if not is_plan(world.tree, rows_left(world), rows):
        return False
    return are_deeds(world.tree, script) and _leads_to(world.tree, script, rows)


def made(world):
    """The ascending list of the lines that the writes of a world have made, each different one once."""
    return sorted({line: True for line in world.wrote})


def gone(world):
    """The ascending list of those of the lines made that no disk holds."""
    left = {line: True for row in rows_left(world) for line in row}
    return [line for line in made(world) if line not in left]


def _leads_to(tree, script, rows):
    """Whether deeds can be done one behind the other, and the books behind them are just the rows."""
    try:
        plain = plain_behind(tree, script)
    except Stopped:
        return False
    return plain.rows() == [list(row) for row in rows]
