"""What any value is, in the words that all modules share. Nothing here raises an error for any value."""


def is_int(value):
    """Whether a value is an integer; True and False are none, though Python counts them as such."""
    return isinstance(value, int) and not isinstance(value, bool)


def is_count(value):
    """Whether a value is an integer from 0 on."""
    return is_int(value) and value >= 0


def is_life(value):
    """Whether a value is an integer from 1 on."""
    return is_int(value) and value >= 1


def is_list(value):
    """Whether a value may stand where a list is expected."""
    return isinstance(value, (list, tuple))


def is_signs(value):
    """Whether a value is a string of signs from the space to `~`."""
    # The signs of ASCII that are printable are just these.
    return isinstance(value, str) and value.isascii() and value.isprintable()


def is_numeral(text):
    """Whether a text is an integer from 0 on in figures, without a leading zero."""
    return text.isascii() and text.isdigit() and (text == "0" or not text.startswith("0"))
