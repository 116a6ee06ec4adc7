"""Frames: texts with their lengths around them, so that a text that was cut is told from a whole one."""

from neverunsaid.basics import is_signs
from neverunsaid.errors import InvalidSigns, InvalidText

FIGURES = 4
MOST_SIGNS = 9999
END = "."


def framed(text):
    """The frame of a text: the number of its signs in four figures, the text, and a dot."""
    if not is_signs(text) or len(text) > MOST_SIGNS:
        raise InvalidText(text)
    return f"{len(text):04d}{text}{END}"


def frames_in(signs):
    """The texts of the whole frames at the front of the signs, and the number of signs of these frames."""
    if not is_signs(signs):
        raise InvalidSigns(signs)
    texts = []
    good = 0
    end = _frame_end(signs, good)
    while end is not None:
        texts.append(signs[good + FIGURES:end - len(END)])
        good = end
        end = _frame_end(signs, good)
    return (texts, good)


def _frame_end(signs, start):
    """The index behind the frame that begins at this index, or None if no whole frame does."""
    figures = signs[start:start + FIGURES]
    if len(figures) < FIGURES or not figures.isdigit():
        return None
    end = start + FIGURES + int(figures) + len(END)
    # Signs that are cut ahead of their dot have another sign there, or none.
    if signs[end - len(END):end] != END:
        return None
    return end
