"""A desk that keeps a web, and is told deeds and asked questions as rows of words."""

from ringhues.changes import topped, twinned, untied, without
from ringhues.crowds import greatest_crowd, greatest_lot
from ringhues.errors import Apart, NoPlace, NoRow
from ringhues.found import first_hues
from ringhues.judges import always_full
from ringhues.plain import fewest_plain, first_plain
from ringhues.shortest import has_room, shortest, shortest_hues
from ringhues.texts import number_by, ring_read, ring_shown, web_read, web_shown
from ringhues.webs import tie_by, web_of

DONE = "ok"
# How many figures stand behind the word of a deed.
FIGURES = {"tie": 2, "cut": 2, "lose": 1, "twin": 1, "top": 0}
QUESTIONS = ("shown", "shortest", "hues", "plain", "fewest", "crowd", "lot")
RING_QUESTIONS = ("room", "first", "full")


class Desk:
    """A web, at first the one of one place, and the webs ahead of each deed that stands."""

    def __init__(self):
        self.webs = [(1, ())]

    def say(self, row):
        """The answer to a row; refused with NoRow where it is none, or as its deed or question tells."""
        word, *rest = words_of(row)
        web = self.webs[-1]
        if word in QUESTIONS and len(rest) == 0:
            return answer_of(web, word)
        if word in RING_QUESTIONS and len(rest) == 1:
            return ring_answer(web, word, ring_read(rest[0]))
        if word == "back" and len(rest) == 0:
            self.undo()
        else:
            self.webs.append(web_behind(web, word, rest))
        return DONE

    def undo(self):
        """Go back to the web ahead of the last deed that stands."""
        if len(self.webs) == 1:
            raise NoRow("no deed stands")
        self.webs.pop()


def words_of(row):
    """The words of a row, parted by each blank."""
    if not isinstance(row, str):
        raise NoRow("no text")
    return row.split(" ")


def web_behind(web, word, rest):
    """The web that is kept behind a deed."""
    if word == "web" and len(rest) > 0:
        return web_read(" ".join(rest))
    if word not in FIGURES or len(rest) != FIGURES[word]:
        raise NoRow("no deed and no question")
    figures = [number_by(part, 9) for part in rest]
    if None in figures:
        raise NoRow("no single figure where one is due")
    return changed(web, word, figures)


def changed(web, word, figures):
    """The web that a deed with figures makes of a web."""
    if word == "tie":
        return tied(web, figures[0], figures[1])
    if word == "cut":
        return untied(web, figures[0], figures[1])
    if word == "lose":
        return without(web, figures[0])
    if word == "twin":
        return twinned(web, figures[0])
    return topped(web)


def tied(web, one, other):
    """The web with two places tied."""
    tie = tie_by(web[0], (one, other))
    if tie is None:
        raise NoPlace("no two unlike places of the web")
    if tie in web[1]:
        raise Apart("the places are tied")
    return web_of(web[0], list(web[1]) + [tie])


def answer_of(web, word):
    """The answer to a question of one word."""
    if word == "shown":
        return web_shown(web)
    if word == "shortest":
        return ring_shown(shortest(web))
    if word == "hues":
        return numbers_shown(shortest_hues(web))
    if word == "plain":
        return numbers_shown(first_plain(web))
    if word == "fewest":
        return str(fewest_plain(web))
    if word == "crowd":
        return numbers_shown(greatest_crowd(web))
    return numbers_shown(greatest_lot(web))


def ring_answer(web, word, ring):
    """The answer to a question of a ring."""
    if word == "room":
        return truth_shown(has_room(web, ring))
    if word == "full":
        return truth_shown(always_full(web, ring))
    hues = first_hues(web, ring)
    return "none" if hues is None else numbers_shown(hues)


def numbers_shown(numbers):
    """Numbers with one blank between each two."""
    return " ".join([str(number) for number in numbers])


def truth_shown(truth):
    """A truth as a word."""
    return "yes" if truth else "no"
