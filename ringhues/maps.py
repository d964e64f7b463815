"""Maps of webs to other ones, and hues led by them."""

from ringhues.boards import map_board
from ringhues.errors import NoMap
from ringhues.found import first_among
from ringhues.hues import check_hues
from ringhues.rings import check_ring
from ringhues.things import is_row
from ringhues.webs import are_tied, check_web, is_place


def map_holds(web, other, thing):
    """Whether whatever is handed in is a map of a web to another one."""
    check_web(web)
    check_web(other)
    if not is_row(thing, web[0]) or not all([is_place(other[0], place) for place in thing]):
        return False
    return all([are_tied(other, thing[i], thing[j]) for i, j in web[1]])


def first_map(web, other):
    """The first map of a web to another one, as tuples rise; None where there is none."""
    check_web(web)
    check_web(other)
    board = map_board(web, other)
    return first_among(board, [board.spots for place in range(web[0])])


def led_hues(web, other, row, ring, hues):
    """The hues of a web with, at each place, the spot that hues of another web have where a map leads."""
    check_web(web)
    check_web(other)
    check_ring(ring)
    if not map_holds(web, other, row):
        raise NoMap("no map of the web to the other one")
    check_hues(other, ring, hues)
    return tuple([hues[place] for place in row])
