"""Hues found: the first ones, the next ones, and those with known spots."""

from ringhues.boards import ring_board
from ringhues.errors import NoHues
from ringhues.hues import check_hues
from ringhues.rings import check_ring, is_spot
from ringhues.things import is_row
from ringhues.webs import check_web


def first_hues(web, ring):
    """The first hues of a web on a ring, as tuples rise; None where there are none."""
    check_web(web)
    check_ring(ring)
    board = ring_board(web, ring)
    return first_among(board, [board.spots for place in range(web[0])])


def next_hues(web, ring, hues):
    """The hues that come next behind some, as tuples rise; None behind the last ones."""
    check_hues(web, ring, hues)
    board = ring_board(web, ring)
    # What comes next has as many spots at its head in common as can be.
    for place in reversed(range(web[0])):
        same = [(spot,) for spot in hues[:place]]
        higher = board.spots[hues[place] + 1:]
        rest = [board.spots for later in range(place + 1, web[0])]
        found = first_among(board, same + [higher] + rest)
        if found is not None:
            return found
    return None


def first_known(web, ring, known):
    """The first hues that have the known spots, as tuples rise; None where there are none."""
    check_known(web, ring, known)
    board = ring_board(web, ring)
    return first_among(board, [board.spots if spot is None else (spot,) for spot in known])


def are_known(web, ring, thing):
    """Whether a thing is known spots of a web on a ring, both looked at already."""
    return is_row(thing, web[0]) and all([spot is None or is_spot(ring, spot) for spot in thing])


def check_known(web, ring, thing):
    """Refuse what is no web, no ring, no known spots, in this order."""
    check_web(web)
    check_ring(ring)
    if not are_known(web, ring, thing):
        raise NoHues("no known spots of the web on the ring")


def first_among(board, choices):
    """The first row of spots, as tuples rise, with one of its choices at each place; None where there is none."""
    free = tuple(choices)
    answers = {}
    if not can_settle(board, answers, free):
        return None
    row = []
    for place in range(len(choices)):
        spot = first_spot(board, answers, free, place)
        free = board.settled(free, place, spot)
        row.append(spot)
    return tuple(row)


def first_spot(board, answers, free, place):
    """The first free spot of a place with which the others can be settled; None where there is none."""
    for spot in free[place]:
        if can_settle(board, answers, board.settled(free, place, spot)):
            return spot
    return None


def can_settle(board, answers, free):
    """Whether all places that are not settled can get free spots; answers keeps what was found out."""
    if () in free:
        return False
    rest = board.bound(free)
    if rest not in answers:
        answers[rest] = search(board, answers, rest)
    return answers[rest]


def search(board, answers, free):
    """What can_settle tells, by going through the free spots of one place."""
    place = board.narrowest(free)
    if place is None:
        return True
    if board.alike and board.all_free(free):
        # Here the first spot will do just where any other one does.
        return can_settle(board, answers, board.settled(free, place, 0))
    return first_spot(board, answers, free, place) is not None
