"""The webs of rings, and which of them lead to one another."""

from ringhues.rings import check_ring, gap_of, is_shorter
from ringhues.things import check_most
from ringhues.webs import MOST_PLACES, all_pairs, web_of


def ring_web(ring):
    """The web with the spots of a ring as places, those tied that are at least d apart."""
    check_ring(ring)
    k, d = ring
    check_most(k, MOST_PLACES)
    return web_of(k, [(one, other) for one, other in all_pairs(k) if gap_of(ring, one, other) >= d])


def leads(one, other):
    """Whether the web of one ring has a map to that of another one."""
    check_ring(one)
    check_ring(other)
    return is_shorter(one, (2, 1)) or not is_shorter(other, one)
