"""Loose ties: without them the shortest ring is as long; and tight webs, which have none."""

from ringhues.changes import untied
from ringhues.shortest import plain_rings, shortest
from ringhues.webs import all_pairs, is_many


def loose_ties(web):
    """The rising tuple of the loose ties of a web."""
    least = shortest(web)
    return tuple([tie for tie in web[1] if is_loose(web, least, tie)])


def is_tight(web):
    """Whether a web has ties, and none is loose."""
    loose = loose_ties(web)
    return web[1] != () and loose == ()


def tight_part(web):
    """The web that is left when the first loose tie is taken away, until none is loose."""
    least = shortest(web)
    part = web
    # A tie that is not loose stays so in what is left, so no tie ahead is looked at again.
    for tie in web[1]:
        if is_loose(part, least, tie):
            part = untied(part, tie[0], tie[1])
    return part


def by_shortest(many):
    """The list, by the rings' lengths, of each ring with of how many webs of so many places it is the shortest one."""
    counts = {}
    for web in webs_with(many):
        ring = shortest(web)
        counts[ring] = counts.get(ring, 0) + 1
    return [(ring, counts[ring]) for ring in plain_rings(many) if ring in counts]


def is_loose(web, least, tie):
    """Whether a tie is loose of a web with the least ring as its shortest one."""
    return shortest(untied(web, tie[0], tie[1])) == least


def webs_with(many):
    """All webs of so many places."""
    rows = [()] if is_many(many) else []
    for pair in all_pairs(many):
        # Pairs rise, so each row of them does.
        rows = rows + [row + (pair,) for row in rows]
    return [(many, row) for row in rows]
