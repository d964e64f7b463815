"""The bound of arrows, and arrows and hues of one another."""

from ringhues.arrows import all_rounds, along_pairs, arrow_pairs, check_arrows
from ringhues.errors import Apart
from ringhues.hues import check_hues
from ringhues.rings import is_shorter, lowest_terms
from ringhues.shortest import shortest
from ringhues.things import check_most
from ringhues.webs import check_web

MOST_TIES = 10


def bound_of(web, arrows):
    """The bound of arrows, in lowest terms; None where some round has all its arrows one way."""
    check_arrows(web, arrows)
    return bound_among(web, all_rounds(web), arrows)


def hues_by(web, arrows):
    """Hues on the ring that the bound of arrows is."""
    bound = bound_of(web, arrows)
    if bound is None:
        raise Apart("the arrows have no bound")
    return tuple([number % bound[0] for number in greatest_numbers(web, arrows, bound)])


def arrows_by(web, ring, hues):
    """The arrows that go from the lower spot to the higher one."""
    check_hues(web, ring, hues)
    return tuple([1 if hues[one] < hues[other] else -1 for one, other in web[1]])


def best_arrows(web):
    """The first arrows, as tuples rise, that have the least bound."""
    check_web(web)
    many = len(web[1])
    check_most(many, MOST_TIES)
    rounds = all_rounds(web)
    rows = all_arrows(many)
    least = shortest(web)
    at = 0
    # The shortest ring is the least bound, so some arrows have it.
    while bound_among(web, rounds, rows[at]) != least:
        at += 1
    return rows[at]


def bound_among(web, rounds, arrows):
    """What bound_of tells, of a web, its rounds, and arrows that are looked at already."""
    pairs = arrow_pairs(web, arrows)
    bound = (2, 1) if web[1] else (1, 1)
    for places in rounds:
        fewer = min(along_pairs(pairs, places))
        if fewer == 0:
            return None
        if is_shorter(bound, (len(places), fewer)):
            bound = lowest_terms(len(places), fewer)
    return bound


def greatest_numbers(web, arrows, bound):
    """For each place the greatest number that any way to it comes to, the way of this place alone coming to 0."""
    top, bottom = bound
    numbers = [0 for place in range(web[0])]
    pairs = arrow_pairs(web, arrows)
    # No way back to where it began adds anything, so the greatest number comes of a way without a place twice.
    for turn in range(web[0]):
        for one, other in pairs:
            numbers[other] = max(numbers[other], numbers[one] + bottom)
            numbers[one] = max(numbers[one], numbers[other] - (top - bottom))
    return numbers


def all_arrows(many):
    """All arrows of so many ties, as tuples rise."""
    rows = [()]
    for tie in range(many):
        rows = [row + (arrow,) for row in rows for arrow in (-1, 1)]
    return rows
