import itertools

from ringhues.errors import NoHues, NoRing
from ringhues.found import first_hues, first_known, next_hues
from ringhues.hues import hues_hold
from tests.helpers import (
    NO_RINGS, NO_WEBS, ODD, Checks, all_webs, plain_first, plain_search, rings_to, round_web, whole_web,
)
from tests.test_hues import NO_HUES, RING, WEB

NO_KNOWN = [thing for thing in ODD if thing != (0, 1, 2)] + [
    (True, None, None), (None, None, False), [None, None, None], (None, None), (None, None, None, None), (None, 5, None),
    (None, -1, None), (None, 10 ** 99, None), ("0", None, None), (None, "", None), (None, (), None), (None, [0], None),
    (0, 2, True), "   ", {0: None, 1: None, 2: None}, ((None, None, None),),
]


def all_known(many, k):
    return itertools.product([None] + list(range(k)), repeat=many)


def having(found, known):
    return [row for row in found if all(spot is None or spot == had for spot, had in zip(known, row))]


class FirstHuesTest(Checks):
    def test_small_webs_by_a_plain_search(self):
        for many, most in ((1, 6), (2, 7), (3, 6), (4, 4)):
            for web in all_webs(many):
                for ring in rings_to(most):
                    found = plain_search(web, ring)
                    self.assertEqual(self.told(first_hues, web, ring), found[0] if found else None, (web, ring))

    def test_rounds_by_a_plain_search(self):
        for ring in rings_to(6):
            found = plain_search(round_web(5), ring)
            self.assertEqual(first_hues(round_web(5), ring), found[0] if found else None, ring)

    def test_ordinary(self):
        self.assertEqual(self.told(first_hues, round_web(5), (5, 2)), (0, 2, 4, 1, 3))
        self.assertIsNone(self.told(first_hues, whole_web(3), (5, 2)))
        self.assertEqual(self.told(first_hues, (1, ()), (1, 1)), (0,))
        self.assertEqual(self.told(first_hues, (8, ()), (24, 24)), (0,) * 8)
        self.assertIsNone(self.told(first_hues, (2, ((0, 1),)), (1, 1)))

    def test_eight_places_and_24_spots(self):
        # Each of these is out of reach for a walk through all tuples, or through all at the idle places ahead.
        self.assertEqual(self.told(first_hues, whole_web(8), (24, 3)), tuple(range(0, 24, 3)))
        self.assertIsNone(self.told(first_hues, whole_web(8), (24, 4)))
        self.assertIsNone(self.told(first_hues, whole_web(8), (23, 3)))
        self.assertIsNone(self.told(first_hues, (8, ((5, 6), (5, 7), (6, 7))), (24, 9)))
        self.assertIsNone(self.told(first_hues, (8, ((6, 7),)), (24, 13)))
        self.assertEqual(self.told(first_hues, (8, ((5, 6), (5, 7), (6, 7))), (24, 8)), (0, 0, 0, 0, 0, 0, 8, 16))
        self.assertEqual(self.told(first_hues, round_web(8), (24, 12)), (0, 12) * 4)
        odd = (8, tuple(sorted((i + 1, j + 1) for i, j in round_web(7)[1])))
        self.assertIsNone(self.told(first_hues, odd, (24, 11)))
        # Two spots back and forth would leave a round of five, for which 24 / 10 is too short.
        self.assertEqual(self.told(first_hues, odd, (24, 10)), (0, 0, 10, 20, 6, 16, 2, 12))

    def test_great_webs_by_a_plain_search(self):
        star = (8, tuple((i, 7) for i in range(7)))
        wheel = (8, tuple(sorted(round_web(7)[1] + star[1])))
        split = (8, tuple((i, j) for i in range(4) for j in range(4, 8)))
        for web in (star, wheel, split, round_web(7), round_web(8), whole_web(6)):
            for ring in ((24, 4), (24, 6), (24, 10), (23, 7), (21, 5), (12, 3)):
                if ring[0] < 4 * ring[1] and web in (wheel, whole_web(6)):
                    self.assertIsNone(first_hues(web, ring), (web, ring))
                elif web != whole_web(6) or ring[0] >= 6 * ring[1]:
                    hues = plain_first(web, ring)
                    self.says(True, hues_hold, web, ring, hues)
                    self.assertEqual(self.told(first_hues, web, ring), hues, (web, ring))

    def test_by_name(self):
        self.assertEqual(first_hues(ring=(5, 2), web=round_web(5)), (0, 2, 4, 1, 3))


class NextHuesTest(Checks):
    def walk(self, web, ring):
        rows, row = [], first_hues(web, ring)
        while row is not None:
            rows.append(row)
            row = next_hues(web, ring, row)
        return rows

    def test_one_behind_the_other(self):
        for many, most in ((1, 5), (2, 5), (3, 4)):
            for web in all_webs(many):
                for ring in rings_to(most):
                    self.assertEqual(self.walk(web, ring), plain_search(web, ring), (web, ring))

    def test_greater_ones(self):
        for web, ring in ((round_web(5), (5, 2)), (round_web(5), (7, 3)), (whole_web(4), (5, 1)), (WEB, (6, 2))):
            self.assertEqual(self.walk(web, ring), plain_search(web, ring))

    def test_ordinary(self):
        self.assertEqual(self.told(next_hues, WEB, RING, (0, 2, 0)), (0, 2, 4))
        self.assertEqual(self.told(next_hues, WEB, RING, (0, 2, 4)), (0, 3, 0))
        self.assertIsNone(self.told(next_hues, WEB, RING, (4, 2, 4)))
        self.assertIsNone(self.told(next_hues, (1, ()), (1, 1), (0,)))

    def test_eight_places_and_24_spots(self):
        self.assertEqual(self.told(next_hues, (8, ()), (24, 24), (0,) + (23,) * 7), (1,) + (0,) * 7)
        self.assertIsNone(self.told(next_hues, (8, ()), (24, 24), (23,) * 8))
        hues = tuple(range(0, 24, 3))
        self.assertEqual(self.told(next_hues, whole_web(8), (24, 3), hues), hues[:6] + (21, 18))
        self.assertIsNone(self.told(next_hues, whole_web(8), (24, 3), (23, 20, 17, 14, 11, 8, 5, 2)))

    def test_no_hues(self):
        for thing in NO_HUES:
            self.refused(NoHues, next_hues, WEB, RING, thing)

    def test_by_name(self):
        self.assertEqual(next_hues(hues=(0, 2, 0), ring=RING, web=WEB), (0, 2, 4))


class FirstKnownTest(Checks):
    def test_small_webs_by_a_plain_search(self):
        for many, most in ((1, 4), (2, 4), (3, 4)):
            for web in all_webs(many):
                for ring in rings_to(most):
                    found = plain_search(web, ring)
                    for known in all_known(many, ring[0]):
                        first = (having(found, known) + [None])[0]
                        self.assertEqual(first_known(web, ring, known), first, (web, ring, known))

    def test_a_round_by_a_plain_search(self):
        web, ring = round_web(4), (5, 2)
        found = plain_search(web, ring)
        for known in all_known(4, 5):
            self.assertEqual(first_known(web, ring, known), (having(found, known) + [None])[0], known)

    def test_ordinary(self):
        self.assertEqual(self.told(first_known, WEB, RING, (None, None, None)), (0, 2, 0))
        self.assertEqual(self.told(first_known, WEB, RING, (None, None, 1)), (0, 3, 1))
        self.assertEqual(self.told(first_known, WEB, RING, (4, 1, 3)), (4, 1, 3))
        self.assertIsNone(self.told(first_known, WEB, RING, (0, 1, None)))
        self.assertIsNone(self.told(first_known, WEB, RING, (0, 4, None)))
        self.assertIsNone(self.told(first_known, WEB, (5, 2), (0, 0, 0)))
        self.assertIsNone(self.told(first_known, WEB, (4, 2), (0, None, 1)))

    def test_eight_places_and_24_spots(self):
        known = (None,) * 7 + (1,)
        self.assertEqual(self.told(first_known, whole_web(8), (24, 3), known), (4, 7, 10, 13, 16, 19, 22, 1))
        self.assertIsNone(self.told(first_known, whole_web(8), (24, 3), (0,) + (None,) * 6 + (4,)))
        self.assertEqual(self.told(first_known, (8, ()), (24, 24), (None,) * 7 + (23,)), (0,) * 7 + (23,))

    def test_no_known_spots(self):
        for thing in NO_KNOWN:
            self.refused(NoHues, first_known, WEB, RING, thing)

    def test_by_name(self):
        self.assertEqual(first_known(known=(None, None, 1), ring=RING, web=WEB), (0, 3, 1))


class RefusalsTest(Checks):
    CALLS = [(first_hues, (), ()), (next_hues, ((0, 2, 0),), (None,)), (first_known, ((None,) * 3,), ("no",))]

    def test_no_web_goes_ahead(self):
        for call, sound, amiss in self.CALLS:
            for thing in NO_WEBS:
                self.no_web(-1, call, thing, RING, *sound)
                self.no_web(-1, call, thing, None, *amiss)

    def test_no_ring_goes_next(self):
        for call, sound, amiss in self.CALLS:
            for thing in NO_RINGS:
                self.refused(NoRing, call, WEB, thing, *sound)
                self.refused(NoRing, call, WEB, thing, *amiss)
