"""Whole numbers and their figures."""

FIGURES = "0123456789"


def is_whole(value):
    # Python counts True and False as ints; here they are no numbers.
    return isinstance(value, int) and not isinstance(value, bool)


def is_figures(text):
    # Not isdigit: it takes figures of other scripts too.
    for sign in text:
        if sign not in FIGURES:
            return False
    return text != ""
