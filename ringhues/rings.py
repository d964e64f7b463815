"""Rings: spots around, and how far they are apart."""

from ringhues.errors import NoHues, NoRing
from ringhues.things import is_row, is_within

MOST_SPOTS = 24


def is_ring(thing):
    """Whether whatever is handed in is a ring."""
    if not is_row(thing, 2):
        return False
    k, d = thing
    return is_within(k, 1, MOST_SPOTS) and is_within(d, 1, k)


def steps_apart(ring, one, other):
    """The fewest steps from one spot to another one, either way about."""
    check_ring(ring)
    check_spot(ring, one)
    check_spot(ring, other)
    return gap_of(ring, one, other)


def is_spot(ring, thing):
    """Whether a thing is a spot of a ring."""
    return is_within(thing, 0, ring[0] - 1)


def check_ring(thing):
    """Refuse what is no ring."""
    if not is_ring(thing):
        raise NoRing("no ring")


def check_spot(ring, thing):
    """Refuse what is no spot of a ring."""
    if not is_spot(ring, thing):
        raise NoHues("no spot of the ring")


def gap_of(ring, one, other):
    """What steps_apart tells, of a ring and spots that are looked at already."""
    gap = abs(one - other)
    return min(gap, ring[0] - gap)


def is_shorter(one, other):
    """Whether one length is less than another one, each told as two numbers, as a ring tells its own."""
    return one[0] * other[1] < other[0] * one[1]


def lowest_terms(top, bottom):
    """The fraction of two whole numbers from 1 on, in lowest terms."""
    common, rest = top, bottom
    while rest > 0:
        common, rest = rest, common % rest
    return (top // common, bottom // common)
