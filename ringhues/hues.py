"""Hues of a web on a ring: looked at, turned, mirrored."""

from ringhues.errors import NoHues
from ringhues.rings import check_ring, gap_of, is_spot
from ringhues.things import is_row
from ringhues.webs import check_web


def hues_hold(web, ring, thing):
    """Whether whatever is handed in is hues of a web on a ring."""
    check_web(web)
    check_ring(ring)
    return are_hues(web, ring, thing)


def turned_on(web, ring, hues, steps):
    """The hues with each spot so many steps further around."""
    check_hues(web, ring, hues)
    return tuple([(spot + steps) % ring[0] for spot in hues])


def mirrored_hues(web, ring, hues):
    """The hues with each spot s at k less s, 0 staying."""
    check_hues(web, ring, hues)
    return mirrored(ring, hues)


def first_clash(web, ring, spots):
    """The first tie whose places are less than d apart, None where there is none."""
    check_web(web)
    check_ring(ring)
    if not are_spots(web, ring, spots):
        raise NoHues("not a spot of the ring for each place")
    return clash_of(web, ring, spots)


def mirrored(ring, hues):
    """What mirrored_hues tells, of hues that are looked at already."""
    return tuple([-spot % ring[0] for spot in hues])


def are_spots(web, ring, thing):
    """Whether a thing is a tuple with a spot of the ring for each place."""
    return is_row(thing, web[0]) and all([is_spot(ring, spot) for spot in thing])


def are_hues(web, ring, thing):
    """What hues_hold tells, of a web and a ring that are looked at already."""
    return are_spots(web, ring, thing) and clash_of(web, ring, thing) is None


def check_hues(web, ring, thing):
    """Refuse what is no web, no ring, no hues, in this order."""
    check_web(web)
    check_ring(ring)
    if not are_hues(web, ring, thing):
        raise NoHues("no hues of the web on the ring")


def clash_of(web, ring, spots):
    """What first_clash tells, of things that are looked at already."""
    for one, other in web[1]:
        if gap_of(ring, spots[one], spots[other]) < ring[1]:
            return (one, other)
    return None
