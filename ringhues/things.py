"""What the other files share: looking at whatever is handed in."""

from ringhues.errors import TooGreat


def is_whole(thing):
    """Whether a thing is a whole number; True and False are none."""
    return isinstance(thing, int) and not isinstance(thing, bool)


def is_within(thing, least, most):
    """Whether a thing is a whole number from least to most."""
    return is_whole(thing) and least <= thing <= most


def is_row(thing, many):
    """Whether a thing is a tuple of so many things."""
    return isinstance(thing, tuple) and len(thing) == many


def check_most(many, most):
    """Refuse more than there may be."""
    if many > most:
        raise TooGreat(many, most)
