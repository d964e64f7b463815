"""Full rounds of hues, and places moved on.

Nexts are a list with, for each place, the rising tuple of the places that may come next behind it in a round.
"""

from ringhues.errors import Apart, NoPaper
from ringhues.hues import check_hues
from ringhues.webs import all_ends, check_place, is_place


def full_rounds(web, ring, hues):
    """The list of the full rounds of hues, as tuples rise."""
    check_hues(web, ring, hues)
    return rounds_among(full_nexts(web, ring, hues))


def full_holds(web, ring, hues, thing):
    """Whether whatever is handed in is a full round of hues."""
    check_hues(web, ring, hues)
    return goes_round(full_nexts(web, ring, hues), thing)


def laps_of(web, ring, hues, full):
    """How often a full round goes around the ring."""
    if not full_holds(web, ring, hues, full):
        raise NoPaper("no full round of the hues")
    return len(full) * ring[1] // ring[0]


def may_move(web, ring, hues):
    """The rising tuple of the places that may be moved on."""
    check_hues(web, ring, hues)
    return tuple([place for place, nexts in enumerate(full_nexts(web, ring, hues)) if nexts == ()])


def moved_on(web, ring, hues, place):
    """The hues with a place one spot further around."""
    free = may_move(web, ring, hues)
    check_place(web, place)
    if place not in free:
        raise Apart("a place tied to this one is just d steps further around")
    spot = (hues[place] + 1) % ring[0]
    return hues[:place] + (spot,) + hues[place + 1:]


def full_nexts(web, ring, hues):
    """The nexts of full rounds: the places tied to a place that are just d steps further around."""
    k, d = ring
    rows = []
    for place, ends in enumerate(all_ends(web)):
        spot = (hues[place] + d) % k
        rows.append(tuple([end for end in ends if hues[end] == spot]))
    return rows


def rounds_among(nexts):
    """All rounds of unlike places, the least one first, as tuples rise."""
    found = []
    for place in range(len(nexts)):
        gather_rounds(nexts, (place,), found)
    return found


def gather_rounds(nexts, path, found):
    """Add to found all rounds that begin with a path, as tuples rise."""
    if path[0] in nexts[path[-1]]:
        found.append(path)
    for place in nexts[path[-1]]:
        if place > path[0] and place not in path:
            gather_rounds(nexts, path + (place,), found)


def goes_round(nexts, thing):
    """Whether a thing is one of the rounds that rounds_among tells."""
    if not isinstance(thing, tuple) or thing == ():
        return False
    if not all([is_place(len(nexts), place) for place in thing]):
        return False
    if len(set(thing)) < len(thing) or thing[0] != min(thing):
        return False
    return all([later in nexts[place] for place, later in next_pairs(thing)])


def next_pairs(places):
    """Each place of a round with the one that comes next, the last one with the first."""
    return list(zip(places, places[1:] + places[:1]))
