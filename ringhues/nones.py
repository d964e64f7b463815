"""Papers that there are no hues with the known spots."""

from ringhues.boards import ring_board
from ringhues.found import check_known, first_known
from ringhues.things import is_row
from ringhues.webs import is_place

END = "end"
CASE = "case"


def none_holds(web, ring, known, thing):
    """Whether whatever is handed in is a paper that there are no hues with the known spots."""
    check_known(web, ring, known)
    return paper_holds(ring_board(web, ring), known, thing)


def none_for(web, ring, known):
    """A paper that there are no hues with the known spots; None where there are some."""
    if first_known(web, ring, known) is not None:
        return None
    board = ring_board(web, ring)
    free = tuple([board.spots for place in known])
    for place, spot in enumerate(known):
        if is_stuck(board, known, place):
            return (END, place)
        if spot is not None:
            free = board.settled(free, place, spot)
    return paper_of(board, {}, free)


def paper_holds(board, known, thing):
    """What none_holds tells, of known spots that are looked at already."""
    if is_row(thing, 2) and thing[0] == END:
        return is_place(len(known), thing[1]) and is_stuck(board, known, thing[1])
    if is_row(thing, 3) and thing[0] == CASE:
        return case_holds(board, known, thing[1], thing[2])
    return False


def case_holds(board, known, place, papers):
    """Whether there is a paper for each spot of a place that is not known."""
    if not is_place(len(known), place) or known[place] is not None:
        return False
    if not is_row(papers, len(board.spots)):
        return False
    for spot in board.spots:
        if not paper_holds(board, known[:place] + (spot,) + known[place + 1:], papers[spot]):
            return False
    return True


def is_stuck(board, known, place):
    """Whether the known spots tied to a place bar its own spot, or each one where its own is not known."""
    near = [known[end] for end in board.ends[place] if known[end] is not None]
    spots = board.spots if known[place] is None else (known[place],)
    for spot in spots:
        if all([board.far_apart(spot, other) for other in near]):
            return False
    return True


def paper_of(board, papers, free):
    """A paper where the places can't all get free spots; papers keeps those that are made."""
    if () in free:
        return (END, free.index(()))
    # A paper speaks of unsettled places alone, so the same free spots have the same paper, however they came about.
    rest = board.bound(free)
    if rest not in papers:
        papers[rest] = case_of(board, papers, rest)
    return papers[rest]


def case_of(board, papers, free):
    """A paper that goes through the spots of one place."""
    place = board.narrowest(free)
    rows = []
    for spot in board.spots:
        if spot in free[place]:
            rows.append(paper_of(board, papers, board.settled(free, place, spot)))
        else:
            rows.append((END, place))
    return (CASE, place, tuple(rows))
