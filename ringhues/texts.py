"""Webs and rings as texts, written and read."""

from ringhues.errors import NoText
from ringhues.rings import MOST_SPOTS, check_ring, is_ring
from ringhues.webs import MOST_PLACES, check_web, is_tie


def web_shown(web):
    """The text that writes a web."""
    check_web(web)
    return " ".join([f"{web[0]}:"] + [f"{one}-{other}" for one, other in web[1]])


def web_read(text):
    """The web that a text writes."""
    check_text(text)
    head, *rest = text.split(" ")
    many = many_by(head)
    if many is None:
        raise NoText(0)
    ties = []
    for at, word in enumerate(rest):
        tie = pair_by(word, "-", MOST_PLACES - 1)
        if not is_tie(many, tie) or (at > 0 and tie <= ties[-1]):
            raise NoText(at + 1)
        ties.append(tie)
    return (many, tuple(ties))


def ring_shown(ring):
    """The text that writes a ring."""
    check_ring(ring)
    return f"{ring[0]}/{ring[1]}"


def ring_read(text):
    """The ring that a text writes."""
    check_text(text)
    ring = pair_by(text, "/", MOST_SPOTS)
    if not is_ring(ring):
        raise NoText(0)
    return ring


def check_text(thing):
    """Refuse what is no text."""
    if not isinstance(thing, str):
        raise NoText(-1)


def number_by(word, most):
    """The number from 0 to most that a word writes, without a nought ahead; None where it writes none."""
    # Written numbers are held against the word, as int would read signs, blanks and noughts ahead, too.
    for number in range(most + 1):
        if word == str(number):
            return number
    return None


def pair_by(word, sign, most):
    """The two numbers up to most that a word writes, a sign between; None for what is no such number."""
    one, between, other = word.partition(sign)
    return (number_by(one, most), number_by(other, most))


def many_by(word):
    """How many places the first word of a web's text tells; None where it tells none."""
    number, sign, rest = word.partition(":")
    many = number_by(number, MOST_PLACES)
    return many if many != 0 and sign == ":" and rest == "" else None
