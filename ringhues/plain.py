"""Plain hues: numbers instead of spots, unlike for tied places."""

from ringhues.errors import NoHues
from ringhues.found import first_hues
from ringhues.hues import check_hues
from ringhues.shortest import has_room
from ringhues.things import check_most, is_row, is_whole
from ringhues.webs import check_web

GREATEST_NUMBER = 11


def plain_hold(web, thing):
    """Whether whatever is handed in is plain hues of a web."""
    check_web(web)
    if not is_row(thing, web[0]) or not all([is_whole(number) and number >= 0 for number in thing]):
        return False
    return all([thing[one] != thing[other] for one, other in web[1]])


def fewest_plain(web):
    """How many unlike numbers plain hues have at least."""
    many = 1
    # Plain hues of numbers less than many are just the hues on the ring with so many spots where d is 1.
    while not has_room(web, (many, 1)):
        many += 1
    return many


def first_plain(web):
    """The first plain hues, as tuples rise, of as few numbers as can be."""
    return first_hues(web, (fewest_plain(web), 1))


def plain_by(web, ring, hues):
    """The plain hues that have for each place its spot through d, rounded down."""
    check_hues(web, ring, hues)
    return tuple([spot // ring[1] for spot in hues])


def ring_by(web, plain):
    """A ring on which plain hues are hues, and they."""
    check_plain(web, plain)
    greatest = max(plain)
    check_most(greatest, GREATEST_NUMBER)
    return ((max(greatest + 1, 2), 1), plain)


def check_plain(web, thing):
    """Refuse what is no web, no plain hues, in this order."""
    if not plain_hold(web, thing):
        raise NoHues("no plain hues of the web")
