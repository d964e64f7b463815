"""Hues judged: a full round, or a shorter ring."""

from ringhues.errors import Apart
from ringhues.rings import check_ring, is_shorter
from ringhues.rounds import full_rounds
from ringhues.shortest import shortest, shortest_hues
from ringhues.webs import check_web


def judged(web, ring, hues):
    """The first full round of hues, or the shortest ring and the first hues there, which is shorter then."""
    found = full_rounds(web, ring, hues)
    if web[1] == ():
        raise Apart("the web has no ties")
    if found:
        return ("round", found[0])
    return ("shorter", shortest(web), shortest_hues(web))


def always_full(web, ring):
    """Whether there are hues, and all of them have a full round."""
    check_web(web)
    check_ring(ring)
    # On a longer ring than the shortest one some hues have none, on it all have one, and without ties none has.
    least = shortest(web)
    return web[1] != () and not is_shorter(ring, least) and not is_shorter(least, ring)
