from ringhues.errors import NoWeb
from ringhues.shortest import plain_rings, shortest
from ringhues.tight import by_shortest, is_tight, loose_ties, tight_part
from ringhues.webs import is_web
from tests.helpers import NO_WEBS, Checks, all_webs, drawn_webs, length, plain_shortest, round_web, whole_web

WEB = (4, ((0, 1), (0, 2), (1, 2), (2, 3)))


def plainly_untied(web, tie):
    return (web[0], tuple(other for other in web[1] if other != tie))


def plain_loose(web, least):
    """The words of the document, over again, by what tells the shortest ring."""
    return tuple(tie for tie in web[1] if least(plainly_untied(web, tie)) == least(web))


def plain_part(web, least):
    """The first loose tie taken away, all ties looked at anew each time."""
    loose = plain_loose(web, least)
    while loose:
        web = plainly_untied(web, loose[0])
        loose = plain_loose(web, least)
    return web


class TightTest(Checks):
    def holds(self, web, least=plain_shortest):
        loose = loose_ties(web)
        self.assertEqual(repr(loose), repr(plain_loose(web, least)), web)
        self.assertIs(is_tight(web), web[1] != () and loose == ())
        part = tight_part(web)
        self.assertEqual(repr(part), repr(plain_part(web, least)), web)
        self.assertIs(is_web(part), True)
        self.assertEqual(part[0], web[0])
        self.assertEqual(shortest(part), shortest(web))
        self.assertEqual(loose_ties(part), ())
        self.assertIs(is_tight(part), web[1] != ())
        self.assertEqual(tight_part(part), part)

    def test_small_webs(self):
        for many in (1, 2, 3, 4):
            for web in all_webs(many):
                self.holds(web)

    def test_greater_webs(self):
        for web in drawn_webs(5, 15):
            self.holds(web)
        # A plain search for the shortest ring of each of their parts would take long.
        for web in list(drawn_webs(6, 10)) + list(drawn_webs(7, 10)) + list(drawn_webs(8, 10)):
            self.holds(web, shortest)

    def test_without_ties(self):
        for many in range(1, 9):
            self.assertEqual(self.told(loose_ties, (many, ())), ())
            self.says(False, is_tight, (many, ()))
            self.assertEqual(self.told(tight_part, (many, ())), (many, ()))

    def test_odd_rounds(self):
        for many in (3, 5, 7):
            self.assertEqual(self.told(loose_ties, round_web(many)), ())
            self.says(True, is_tight, round_web(many))
            self.assertEqual(self.told(tight_part, round_web(many)), round_web(many))

    def test_even_rounds(self):
        for many in (4, 6, 8):
            self.assertEqual(self.told(loose_ties, round_web(many)), round_web(many)[1])
            self.says(False, is_tight, round_web(many))
            # Of each two ties that are left the first one is loose, until the last one alone is there.
            self.assertEqual(self.told(tight_part, round_web(many)), (many, round_web(many)[1][-1:]))

    def test_all_tied(self):
        for many in range(2, 9):
            self.assertEqual(self.told(loose_ties, whole_web(many)), ())
            self.says(True, is_tight, whole_web(many))
            self.assertEqual(self.told(tight_part, whole_web(many)), whole_web(many))

    def test_ordinary(self):
        self.says(True, is_tight, (2, ((0, 1),)))
        self.says(True, is_tight, (8, ((3, 7),)))
        self.assertEqual(self.told(loose_ties, WEB), ((2, 3),))
        self.says(False, is_tight, WEB)
        self.assertEqual(self.told(tight_part, WEB), (4, ((0, 1), (0, 2), (1, 2))))
        # Two webs of three at one place: each tie is loose, until the first web is cut.
        web = (5, ((0, 1), (0, 2), (1, 2), (2, 3), (2, 4), (3, 4)))
        self.assertEqual(self.told(loose_ties, web), web[1])
        self.assertEqual(self.told(tight_part, web), (5, ((2, 3), (2, 4), (3, 4))))

    def test_refusals(self):
        for call in (loose_ties, is_tight, tight_part):
            self.takes(call, "web", WEB)
            self.in_order(call, (WEB,), [(NoWeb, NO_WEBS)])


class ByShortestTest(Checks):
    def test_by_going_through_all_webs(self):
        for many in (1, 2, 3, 4):
            told = self.told(by_shortest, many)
            counts = {}
            for web in all_webs(many):
                ring = plain_shortest(web)
                counts[ring] = counts.get(ring, 0) + 1
            self.assertEqual(told, sorted(counts.items(), key=lambda row: length(row[0])))
            self.assertEqual(sum(number for _, number in told), 2 ** (many * (many - 1) // 2))
            self.assertTrue(all(type(row) is tuple and type(row[1]) is int for row in told))

    def test_ordinary(self):
        self.assertEqual(self.told(by_shortest, 1), [((1, 1), 1)])
        self.assertEqual(self.told(by_shortest, 2), [((1, 1), 1), ((2, 1), 1)])
        self.assertEqual(self.told(by_shortest, 3), [((1, 1), 1), ((2, 1), 6), ((3, 1), 1)])
        self.assertEqual(self.told(by_shortest, 4), [((1, 1), 1), ((2, 1), 40), ((3, 1), 22), ((4, 1), 1)])

    def test_somewhat_beyond(self):
        # There is no web of no place, nor one of nine.
        self.assertEqual(by_shortest(0), [])
        self.assertEqual(by_shortest(9), [])
        told = by_shortest(5)
        self.assertEqual([ring for ring, _ in told], plain_rings(5))
        self.assertEqual(dict(told)[(5, 2)], 12)
        self.assertEqual(sum(number for _, number in told), 1024)

    def test_the_list_is_the_askers_own(self):
        told = by_shortest(3)
        self.assertIs(type(told), list)
        told.clear()
        self.assertEqual(len(by_shortest(3)), 3)

    def test_by_name(self):
        self.takes(by_shortest, "many", 3)
