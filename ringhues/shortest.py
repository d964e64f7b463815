"""Room on rings, and the shortest ring on which a web has some."""

from ringhues.found import first_hues
from ringhues.rings import MOST_SPOTS, lowest_terms
from ringhues.webs import check_web

# Each d of a plain ring, from 1 to 12, divides it, so that lengths taken so often are whole numbers.
SO_OFTEN = 27720


def plain_rings(most):
    """The plain rings with up to so many spots, by their length, rising."""
    limit = min(most, MOST_SPOTS)
    rings = [(k, d) for k in range(1, limit + 1) for d in range(1, k + 1) if is_plain(k, d)]
    return sorted(rings, key=lambda ring: ring[0] * SO_OFTEN // ring[1])


def has_room(web, ring):
    """Whether a web has hues on a ring."""
    return first_hues(web, ring) is not None


def shortest(web):
    """The plain ring of the least length on which a web has room."""
    check_web(web)
    rings = plain_rings(web[0])
    at = 0
    # The last of these rings has a spot for each place, and so has room.
    while not has_room(web, rings[at]):
        at += 1
    return rings[at]


def shortest_hues(web):
    """The first hues on the shortest ring, as tuples rise."""
    return first_hues(web, shortest(web))


def is_plain(k, d):
    """Whether the ring of two numbers is plain."""
    return lowest_terms(k, d) == (k, d) and (k == 1 or k >= 2 * d)
