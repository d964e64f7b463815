"""Webs changed: places and ties taken away or put in, and webs put to one another.

Names are a list with, for each place of a web, the number that it gets in a new one.
"""

from ringhues.errors import Apart, NoPlace
from ringhues.things import check_most
from ringhues.webs import MOST_PLACES, check_place, check_web, tie_by, tied_to, web_of


def without(web, place):
    """The web without a place, those behind it numbered one less."""
    check_web(web)
    check_place(web, place)
    if web[0] == 1:
        raise NoPlace("the web has no other place")
    kept = [tie for tie in web[1] if place not in tie]
    return web_of(web[0] - 1, renamed(kept, names_but(web, place, None, 0)))


def untied(web, one, other):
    """The web without the tie of two places."""
    check_web(web)
    check_place(web, one)
    check_place(web, other)
    tie = tie_by(web[0], (one, other))
    if tie not in web[1]:
        raise Apart("the places are not tied")
    return web_of(web[0], [kept for kept in web[1] if kept != tie])


def topped(web):
    """The web with one place more, tied to all others."""
    check_web(web)
    return with_place(web, list(range(web[0])))


def twinned(web, place):
    """The web with one place more, tied to just those to which a place is."""
    check_web(web)
    check_place(web, place)
    return with_place(web, tied_to(web, place))


def put_beside(one, other):
    """The web with the places of one web and, behind them, those of another one, with the ties of both."""
    check_web(one)
    check_web(other)
    return joined(one, other, names_behind(one, other), [])


def all_tied(one, other):
    """The web that put_beside tells, with each place of the one tied to each of the other, too."""
    check_web(one)
    check_web(other)
    names = names_behind(one, other)
    return joined(one, other, names, [(place, name) for place in range(one[0]) for name in names])


def put_together(one, other, place, there):
    """The web of two webs where a place of the one and a place of the other are one place."""
    check_web(one)
    check_web(other)
    check_place(one, place)
    check_place(other, there)
    return joined(one, other, names_but(other, there, place, one[0]), [])


def with_place(web, ends):
    """The web with one place more, numbered behind all, tied to some ends."""
    check_most(web[0] + 1, MOST_PLACES)
    return web_of(web[0] + 1, list(web[1]) + [(end, web[0]) for end in ends])


def joined(one, other, names, between):
    """The web of the places and ties of one web, those of another one by their names there, and ties between."""
    many = max(one[0], max(names) + 1)
    check_most(many, MOST_PLACES)
    return web_of(many, list(one[1]) + renamed(other[1], names) + between)


def names_behind(one, other):
    """The names of the places of another web, numbered behind those of the one."""
    return [one[0] + place for place in range(other[0])]


def names_but(web, place, name, start):
    """The names of the places of a web, numbered from a start on, but that of one place, which has its own."""
    behind = [start + other for other in range(web[0] - 1)]
    return behind[:place] + [name] + behind[place:]


def renamed(ties, names):
    """The ties, by the names of their places."""
    return [(names[one], names[other]) for one, other in ties]
