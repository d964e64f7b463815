"""Webs: places, and the ties between them."""

from ringhues.errors import NoPlace, NoWeb
from ringhues.things import is_row, is_within

MOST_PLACES = 8


def is_web(thing):
    """Whether whatever is handed in is a web."""
    if not is_row(thing, 2):
        return False
    many, ties = thing
    if not is_many(many) or not isinstance(ties, tuple):
        return False
    if not all([is_tie(many, tie) for tie in ties]):
        return False
    return all([tie < later for tie, later in zip(ties, ties[1:])])


def web_of(many, things):
    """The web with so many places and the ties of a list, each either way round."""
    if not is_many(many):
        raise NoWeb(-1)
    ties = []
    for at, thing in enumerate(things):
        tie = tie_by(many, thing)
        if tie is None or tie in ties:
            raise NoWeb(at)
        ties.append(tie)
    return (many, tuple(sorted(ties)))


def ends_of(web, place):
    """The rising tuple of the places to which a place is tied."""
    check_web(web)
    check_place(web, place)
    return tied_to(web, place)


def is_many(thing):
    """Whether a web may have so many places."""
    return is_within(thing, 1, MOST_PLACES)


def is_place(many, thing):
    """Whether a thing is one of so many places."""
    return is_within(thing, 0, many - 1)


def is_tie(many, thing):
    """Whether a thing is a tie of two of so many places, the lesser one first."""
    if not is_row(thing, 2):
        return False
    one, other = thing
    return is_place(many, one) and is_place(many, other) and one < other


def tie_by(many, thing):
    """The tie that a thing tells, either way round; None where it tells none."""
    if is_tie(many, thing):
        return thing
    if is_row(thing, 2) and is_tie(many, thing[::-1]):
        return thing[::-1]
    return None


def check_web(thing):
    """Refuse what is no web."""
    if not is_web(thing):
        raise NoWeb(-1)


def check_place(web, thing):
    """Refuse what is no place of a web."""
    if not is_place(web[0], thing):
        raise NoPlace("no place of the web")


def are_tied(web, one, other):
    """Whether two places of a web that is looked at already are tied."""
    return tie_by(web[0], (one, other)) in web[1]


def all_pairs(many):
    """All ties that so many places may have, as tuples rise."""
    return [(one, other) for one in range(many) for other in range(one + 1, many)]


def tied_to(web, place):
    """What ends_of tells, of a web and a place that are looked at already."""
    ends = [other if one == place else one for one, other in web[1] if place in (one, other)]
    return tuple(sorted(ends))


def all_ends(web):
    """What ends_of tells, of each place of a web that is looked at already."""
    return [tied_to(web, place) for place in range(web[0])]
