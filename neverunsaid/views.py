"""Views of books: what lines tell of cells by their kinds, and where the copies of a standing part."""

from neverunsaid.basics import is_list
from neverunsaid.books import are_lines, has_no_key_twice, key_of
from neverunsaid.errors import InvalidCell, InvalidKinds, InvalidLines, NotWhole
from neverunsaid.standings import check_standing
from neverunsaid.texts import is_cell

KINDS = ("last", "sum", "set", "row", "most")
MOST_FIGURES = 20


def is_kinds(value):
    """Whether any value is a list of tuples (cell, kind), cells strictly ascending."""
    if not is_list(value) or not all([_is_kind(item) for item in value]):
        return False
    return all([item[0] < later[0] for item, later in zip(value, value[1:])])


def view(kinds, lines, cell):
    """What the lines tell of a cell, by the kind that the kinds have for it."""
    _check_kinds(kinds, lines)
    found = [kind for told, kind in kinds if told == cell]
    if len(found) == 0:
        raise InvalidCell(cell)
    return _view(found[0], lines, cell)


def views(kinds, lines):
    """The list of the tuples (cell, view) for all cells of the kinds."""
    _check_kinds(kinds, lines)
    return [(cell, _view(kind, lines, cell)) for cell, kind in kinds]


def alike(tree, rows, cell):
    """Whether the last line of the cell is the same one in the rows of all houses."""
    lasts = _lasts(tree, rows, cell)
    return all([last == lasts[0] for last in lasts])


def parting(tree, rows, cell):
    """The one road that parts the houses by their last lines of the cell, or None if they are alike."""
    lasts = _lasts(tree, rows, cell)
    # In a standing with the same lines in all rows there is at most one such road.
    for u, v in tree.roads:
        if lasts[u] != lasts[v]:
            return (u, v)
    return None


def _is_kind(value):
    """Whether any value is a tuple of a cell and a kind."""
    if not isinstance(value, tuple) or len(value) != 2:
        return False
    return is_cell(value[0]) and value[1] in KINDS


def _check_kinds(kinds, lines):
    """Raise an error unless these are kinds, and lines of which no two have one key."""
    if not is_kinds(kinds):
        raise InvalidKinds(kinds)
    if not are_lines(lines) or not has_no_key_twice(lines):
        raise InvalidLines(lines)


def _view(kind, lines, cell):
    """What the lines tell of a cell by a kind."""
    told = [line for line in lines if line[2] == cell]
    # No two have one key, so this is the order of their keys.
    texts = [line[3] for line in (sorted(told) if kind == "row" else told)]
    if kind == "row":
        return texts
    if kind == "sum":
        return sum([_number_in(text) for text in texts])
    if kind == "set":
        return sorted({text for text in texts})
    if len(texts) == 0:
        return None
    return texts[-1] if kind == "last" else _most(texts)


def _number_in(text):
    """The integer that a text tells; 0 if it tells none."""
    figures = text.removeprefix("-")
    if not figures.isdigit() or len(figures) > MOST_FIGURES:
        return 0
    return int(text)


def _most(texts):
    """The text that stands most often among texts, the least one of several such."""
    counts = {}
    for text in texts:
        counts[text] = counts.get(text, 0) + 1
    most = max(list(counts.values()))
    return min([text for text, count in counts.items() if count == most])


def _lasts(tree, rows, cell):
    """For each house, the last line of the cell in its row, or None, if all that is asked for is right."""
    check_standing(tree, rows)
    # Without a fault lines with one key are one line, so a row with as many lines as there are keys has all.
    many = len({key_of(line) for row in rows for line in row})
    for house, row in enumerate(rows):
        if len(row) < many:
            raise NotWhole(house)
    if not is_cell(cell):
        raise InvalidCell(cell)
    return [_last(row, cell) for row in rows]


def _last(row, cell):
    """The last line of the cell in a row, or None."""
    told = [line for line in row if line[2] == cell]
    return told[-1] if len(told) > 0 else None
