"""Hues moved to another ring."""

from ringhues.errors import Apart
from ringhues.hues import check_hues
from ringhues.rings import check_ring, is_shorter


def moved_hues(web, ring, hues, other):
    """The hues on another ring, as long or longer, with each spot as far around there, rounded down."""
    check_hues(web, ring, hues)
    check_ring(other)
    if is_shorter(other, ring):
        raise Apart("the other ring is shorter")
    return tuple([spot * other[0] // ring[0] for spot in hues])
