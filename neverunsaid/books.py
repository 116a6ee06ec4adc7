"""What lists of lines tell."""

from neverunsaid.basics import is_count, is_list
from neverunsaid.texts import is_line
from neverunsaid.trees import is_beyond


def are_lines(value):
    """Whether any value is a list of lines."""
    return is_list(value) and all([is_line(line) for line in value])


def are_lines_of(tree, value):
    """Whether any value is a list of lines whose homes are houses of the tree."""
    return are_lines(value) and all([line[0] in tree for line in value])


def is_row(tree, value):
    """Whether any value is a list of lines of the tree, no two of them with one key."""
    return are_lines_of(tree, value) and has_no_key_twice(value)


def has_no_key_twice(lines):
    """Whether no two of the lines have one key."""
    return len({key_of(line) for line in lines}) == len(lines)


def copy_of(lines):
    """The tuple of the last line of each cell, cells ascending."""
    last = {line[2]: line for line in lines}
    return tuple([last[cell] for cell in sorted(last)])


def key_of(line):
    """The key of what is known to be a line."""
    return line[:2]


def is_key(value):
    """Whether any value has the form of a key."""
    return isinstance(value, tuple) and len(value) == 2 and is_count(value[0]) and is_count(value[1])


def lines_beyond(tree, row, u, v):
    """The lines of a row that are of u's side of the road between u and v, in their order."""
    return [line for line in row if is_beyond(tree, u, v, line[0])]


def keys_beyond(tree, row, u, v):
    """The keys of the lines of a row that are of u's side of the road between u and v, in their order."""
    return [key_of(line) for line in lines_beyond(tree, row, u, v)]
