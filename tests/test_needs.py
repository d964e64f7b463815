from ringhues.errors import NoWeb
from ringhues.needs import needed_part, needed_places
from ringhues.shortest import shortest
from tests.helpers import NO_WEBS, Checks, all_webs, drawn_webs, plain_shortest, round_web, whole_web

WEB = (3, ((0, 1), (1, 2)))


def plainly_without(web, place):
    kept = [other for other in range(web[0]) if other != place]
    return (len(kept), tuple((kept.index(i), kept.index(j)) for i, j in web[1] if place not in (i, j)))


def plain_needed(web):
    """The words of the document, over again."""
    if web[0] == 1:
        return (0,)
    least = plain_shortest(web)
    return tuple(place for place in range(web[0]) if plain_shortest(plainly_without(web, place)) != least)


def plain_part(web):
    """The least place that is not needed taken away, all places looked at anew each time."""
    while True:
        idle = sorted(set(range(web[0])) - set(plain_needed(web)))
        if not idle:
            return web
        web = plainly_without(web, idle[0])


class NeedsTest(Checks):
    def holds(self, web):
        needed = needed_places(web)
        self.assertEqual(needed, plain_needed(web), web)
        self.assertIs(type(needed), tuple)
        part = needed_part(web)
        self.assertEqual(repr(part), repr(plain_part(web)), web)
        self.assertEqual(shortest(part), shortest(web))
        self.assertEqual(needed_places(part), tuple(range(part[0])))
        self.assertEqual(needed_part(part), part)

    def test_small_webs(self):
        for many in (1, 2, 3, 4):
            for web in all_webs(many):
                self.holds(web)

    def test_greater_webs(self):
        for many in (5, 6, 7, 8):
            for web in drawn_webs(many, 10):
                self.holds(web)

    def test_one_place(self):
        self.assertEqual(self.told(needed_places, (1, ())), (0,))
        self.assertEqual(self.told(needed_part, (1, ())), (1, ()))

    def test_without_ties(self):
        for many in range(2, 9):
            self.assertEqual(self.told(needed_places, (many, ())), ())
            self.assertEqual(self.told(needed_part, (many, ())), (1, ()))

    def test_rounds(self):
        for many in (3, 5, 7):
            self.assertEqual(self.told(needed_places, round_web(many)), tuple(range(many)))
            self.assertEqual(self.told(needed_part, round_web(many)), round_web(many))
        for many in (4, 6, 8):
            self.assertEqual(self.told(needed_places, round_web(many)), ())
            self.assertEqual(self.told(needed_part, round_web(many)), (2, ((0, 1),)))

    def test_all_tied(self):
        for many in range(1, 9):
            self.assertEqual(self.told(needed_places, whole_web(many)), tuple(range(many)))
            self.assertEqual(self.told(needed_part, whole_web(many)), whole_web(many))

    def test_ordinary(self):
        self.assertEqual(self.told(needed_places, WEB), (1,))
        self.assertEqual(self.told(needed_part, WEB), (2, ((0, 1),)))
        # A round of five, a place tied to one of it, and one on its own.
        web = (7, ((0, 2), (1, 2), (1, 6), (2, 4), (4, 5), (5, 6)))
        self.assertEqual(self.told(needed_places, web), (1, 2, 4, 5, 6))
        self.assertEqual(self.told(needed_part, web), (5, ((0, 1), (0, 4), (1, 2), (2, 3), (3, 4))))
        # Two webs of three beside one another: none is needed, until the first one is gone.
        web = (6, whole_web(3)[1] + ((3, 4), (3, 5), (4, 5)))
        self.assertEqual(self.told(needed_places, web), ())
        self.assertEqual(self.told(needed_part, web), whole_web(3))

    def test_refusals(self):
        for call in (needed_places, needed_part):
            self.takes(call, "web", WEB)
            self.in_order(call, (WEB,), [(NoWeb, NO_WEBS)])
