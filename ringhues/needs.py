"""Places that are needed: without them the shortest ring is shorter."""

from ringhues.changes import without
from ringhues.shortest import shortest


def needed_places(web):
    """The rising tuple of the needed places of a web."""
    least = shortest(web)
    return tuple([place for place in range(web[0]) if is_needed(web, least, place)])


def needed_part(web):
    """The web that is left when the least place that is not needed is taken away, until all are needed."""
    least = shortest(web)
    place = 0
    # A needed place stays so in what is left, so no place ahead is looked at again.
    while place < web[0]:
        if is_needed(web, least, place):
            place += 1
        else:
            web = without(web, place)
    return web


def is_needed(web, least, place):
    """Whether a place is needed of a web with the least ring as its shortest one."""
    return web[0] == 1 or shortest(without(web, place)) != least
