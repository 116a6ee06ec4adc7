"""Eras, and the letters that houses send to each other."""

from neverunsaid.basics import is_count, is_life
from neverunsaid.books import is_row

# What the letters of each kind have behind their era.
FORMS = {
    "halt": (),
    "held": ("house", "life", "lines"),
    "sure": (),
    "still": ("house", "life"),
    "elder": (),
    "take": ("life", "start", "lines"),
    "taken": ("house",),
    "have": ("house", "count"),
    "lines": ("house", "start", "lines"),
}


def is_era(value):
    """Whether any value is an era: a tuple (count, house, life)."""
    if not isinstance(value, tuple) or len(value) != 3:
        return False
    # A count is an integer from 1 on, as a life is.
    return is_life(value[0]) and is_count(value[1]) and is_life(value[2])


def is_letter(tree, value):
    """Whether any value is a letter between houses of the tree."""
    if not isinstance(value, tuple) or len(value) < 2 or not isinstance(value[0], str) or value[0] not in FORMS:
        return False
    form = FORMS[value[0]]
    if not is_era(value[1]) or value[1][1] not in tree or len(value) != 2 + len(form):
        return False
    return all([_is_item(tree, word, item) for word, item in zip(form, value[2:])])


def _is_item(tree, word, value):
    """Whether any value is an item of a letter that goes by a word of its form."""
    if word == "house":
        return value in tree
    if word == "life":
        return is_life(value)
    if word == "lines":
        return isinstance(value, tuple) and is_row(tree, value)
    return is_count(value)
