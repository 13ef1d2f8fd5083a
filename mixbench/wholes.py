"""Whole numbers and their figures."""

FIGURES = "0123456789"
# No number that the program reads in figures may have more of them.
MOST_FIGURES = 13


def is_whole(value):
    # Python counts True and False as ints; here they are no numbers.
    return isinstance(value, int) and not isinstance(value, bool)


def is_figures(text):
    # Not isdigit: it takes figures of other scripts too.
    for sign in text:
        if sign not in FIGURES:
            return False
    return text != ""


def whole_of(text):
    """The number written by figures without noughts ahead; None where the text is no such one, or too long."""
    if not is_figures(text) or len(text) > MOST_FIGURES:
        return None
    if text.startswith("0") and text != "0":
        return None
    return int(text)
