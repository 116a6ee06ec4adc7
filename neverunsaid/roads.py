"""What goes over a road: how many lines came over it, and which ones are to be sent."""

from neverunsaid.basics import is_count
from neverunsaid.books import are_lines_of, lines_beyond
from neverunsaid.errors import InvalidCount, InvalidLines
from neverunsaid.trees import check_road


def came_over(tree, lines, u, v):
    """How many of the lines are of u's side of the road between u and v."""
    return len(_lines_of_side(tree, lines, u, v))


def to_send(tree, lines, u, v, count):
    """The lines of u's side of the road between u and v, from the one with the index `count` among these on."""
    found = _lines_of_side(tree, lines, u, v)
    if not is_count(count):
        raise InvalidCount(count)
    return found[count:]


def _lines_of_side(tree, lines, u, v):
    """The lines of u's side of the road between u and v, if all that is asked for is right."""
    if not are_lines_of(tree, lines):
        raise InvalidLines(lines)
    check_road(tree, u, v)
    return lines_beyond(tree, lines, u, v)
