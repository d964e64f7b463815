"""Lots of hues that become one another by turning and mirroring."""

from ringhues.counts import check_few, fixed_rows
from ringhues.hues import check_hues, mirrored, mirrored_hues, turned_on


def folded_many(web, ring):
    """How many lots of hues there are, none of one lot becoming some of another lot."""
    check_few(web, ring)
    # Of each lot just one, or two that are mirrored to one another, have place 0 at spot 0.
    return len([row for row in fixed_rows(web, ring) if row <= mirrored(ring, row)])


def first_folded(web, ring, hues):
    """The first hues, as tuples rise, of the lot of some hues."""
    check_few(web, ring)
    check_hues(web, ring, hues)
    fixed = turned_on(web, ring, hues, -hues[0])
    return min(fixed, mirrored_hues(web, ring, fixed))
