"""How many hues a web has on a ring, of small webs and rings."""

from ringhues.boards import ring_board
from ringhues.rings import check_ring
from ringhues.things import check_most
from ringhues.webs import check_web

FEW_PLACES = 6
FEW_SPOTS = 8
MOST_TOLD = 300


def hues_many(web, ring):
    """How many hues a web has on a ring."""
    many = fixed_many(web, ring)
    # Hues turned on are hues, so as many of them have place 0 at each other spot.
    return ring[0] * many


def fixed_many(web, ring):
    """How many hues have place 0 at spot 0."""
    check_few(web, ring)
    return len(fixed_rows(web, ring))


def all_fixed(web, ring):
    """The list of all hues that have place 0 at spot 0, as tuples rise."""
    check_few(web, ring)
    rows = fixed_rows(web, ring)
    check_most(len(rows), MOST_TOLD)
    return rows


def by_spots(web, d):
    """The list, at each number of spots from 0 to 8, of how many hues there are on the ring of them and d."""
    check_web(web)
    check_most(web[0], FEW_PLACES)
    return [k * len(fixed_rows(web, (k, d))) if k >= d else 0 for k in range(FEW_SPOTS + 1)]


def check_few(web, ring):
    """Refuse what is no web, no ring, has too many places, too many spots, in this order."""
    check_web(web)
    check_ring(ring)
    check_most(web[0], FEW_PLACES)
    check_most(ring[0], FEW_SPOTS)


def fixed_rows(web, ring):
    """All hues that have place 0 at spot 0, as tuples rise, of a web and a ring that are looked at already."""
    board = ring_board(web, ring)
    rows = [(0,)]
    for place in range(1, web[0]):
        ahead = [end for end in board.ends[place] if end < place]
        rows = [row + (spot,) for row in rows for spot in board.spots if is_free(board, row, ahead, spot)]
    return rows


def is_free(board, row, ahead, spot):
    """Whether a spot is far from those that a row has at the places ahead."""
    return all([board.far_apart(spot, row[place]) for place in ahead])
