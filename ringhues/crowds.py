"""Crowds and lots of places, and papers that no ring with room is shorter."""

from ringhues.arrows import is_round
from ringhues.plain import check_plain
from ringhues.things import is_row
from ringhues.webs import check_web, is_place

CROWD = "crowd"
ODD = "odd"


def greatest_crowd(web):
    """The first, as tuples rise, of the crowds with the most places."""
    check_web(web)
    return greatest_row(web, True)


def greatest_lot(web):
    """The first, as tuples rise, of the lots with the most places."""
    check_web(web)
    return greatest_row(web, False)


def lots_of(web, plain):
    """The lots of one number of plain hues, by their numbers."""
    check_plain(web, plain)
    return [places_with(plain, number) for number in sorted(set(plain))]


def ring_bound(web, thing):
    """The length of a paper that no ring with room for a web is shorter; None for what is no such paper."""
    check_web(web)
    if not is_row(thing, 2):
        return None
    word, places = thing
    if word == CROWD and is_crowd(web, places):
        return (len(places), 1)
    if word == ODD and is_round(web, places) and len(places) % 2 == 1:
        return (len(places), len(places) // 2)
    return None


def is_crowd(web, thing):
    """Whether a thing is a crowd of one place or more."""
    if not isinstance(thing, tuple) or not 1 <= len(thing) <= web[0]:
        return False
    if not all([is_place(web[0], place) for place in thing]):
        return False
    # A tie has its lesser place first, so places that are tied in their order rise.
    return all([(one, other) in web[1] for at, other in enumerate(thing) for one in thing[:at]])


def greatest_row(web, tied):
    """The first, as tuples rise, of the greatest crowds, or of the greatest lots where tied is False."""
    rows = [()]
    longer = longer_rows(web, tied, rows)
    while longer:
        rows = longer
        longer = longer_rows(web, tied, rows)
    return rows[0]


def longer_rows(web, tied, rows):
    """All crowds, or lots, of one place more than those of the rows, as tuples rise where these do."""
    return [row + (place,) for row in rows for place in range(web[0]) if may_join(web, tied, row, place)]


def may_join(web, tied, row, place):
    """Whether a place stands behind those of a crowd, or a lot, and is tied to all, or none, of them."""
    return all([one < place and ((one, place) in web[1]) == tied for one in row])


def places_with(plain, number):
    """The rising tuple of the places with a number."""
    return tuple([place for place, other in enumerate(plain) if other == number])
