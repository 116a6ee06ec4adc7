"""Acts in a world, told as tuples."""

from neverunsaid.basics import is_count
from neverunsaid.texts import is_cell, is_text

# What the acts of each kind have behind their word.
ACT_FORMS = {
    "tick": ("house",),
    "write": ("house", "cell", "text"),
    "carry": ("index",),
    "drop": ("index",),
    "double": ("index",),
    "stop": ("house", "count"),
    "cut": ("house", "count"),
    "rise": ("house",),
}


def form_of(value):
    """What acts have behind their first item, if this is the word of a kind of acts; else None."""
    return ACT_FORMS.get(value) if isinstance(value, str) else None


def is_act(value):
    """Whether any value is an act, with any houses from 0 on, whether or not it can be done."""
    if not isinstance(value, tuple) or len(value) == 0:
        return False
    form = form_of(value[0])
    if form is None or len(value) != 1 + len(form):
        return False
    return all([_is_item(word, item) for word, item in zip(form, value[1:])])


def is_act_of(tree, value):
    """Whether any value is an act with houses of the tree, whether or not it can be done."""
    return is_act(value) and (form_of(value[0])[0] != "house" or value[1] in tree)


def _is_item(word, value):
    """Whether any value is an item of an act that goes by a word of its form."""
    if word == "cell":
        return is_cell(value)
    if word == "text":
        return is_text(value)
    return is_count(value)
