"""Arrows of a web, and its rounds."""

from ringhues.errors import NoArrows, NoPaper
from ringhues.rounds import goes_round, next_pairs, rounds_among
from ringhues.things import is_row, is_whole
from ringhues.webs import all_ends, check_web


def are_arrows(web, thing):
    """Whether whatever is handed in is arrows of a web."""
    check_web(web)
    return is_row(thing, len(web[1])) and all([is_whole(arrow) and arrow in (1, -1) for arrow in thing])


def turned_arrows(web, arrows):
    """The arrows all the other way about."""
    check_arrows(web, arrows)
    return tuple([-arrow for arrow in arrows])


def all_rounds(web):
    """The list of the rounds of a web, as tuples rise."""
    check_web(web)
    return [places for places in rounds_among(all_ends(web)) if is_forward(places)]


def along(web, arrows, places):
    """Of how many ties of a round the arrow goes from a place to the next one, and of how many against that."""
    check_arrows(web, arrows)
    if not is_round(web, places):
        raise NoPaper("no round of the web")
    return along_pairs(arrow_pairs(web, arrows), places)


def check_arrows(web, thing):
    """Refuse what is no web, no arrows, in this order."""
    if not are_arrows(web, thing):
        raise NoArrows("no arrows of the web")


def is_round(web, thing):
    """Whether a thing is a round of a web that is looked at already."""
    return goes_round(all_ends(web), thing) and is_forward(thing)


def is_forward(places):
    """Whether places that go round do it the way about that is told, and are three or more."""
    # Of two places the second one is the last one, and so not less than it.
    return places[1] < places[-1]


def arrow_pairs(web, arrows):
    """The pairs (from, to) of the arrows, as keys."""
    return {(tie if arrow == 1 else tie[::-1]): True for tie, arrow in zip(web[1], arrows)}


def along_pairs(pairs, places):
    """What along tells, of a round and pairs of arrows that are looked at already."""
    forward = len([pair for pair in next_pairs(places) if pair in pairs])
    return (forward, len(places) - forward)
