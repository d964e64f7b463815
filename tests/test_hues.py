import itertools

from ringhues.errors import NoHues, NoRing
from ringhues.hues import first_clash, hues_hold, mirrored_hues, turned_on
from tests.helpers import (
    NO_RINGS, NO_WEBS, ODD, Checks, all_webs, plain_gap, plain_search, plainly_hues, rings_to, round_web, whole_web,
)

WEB = (3, ((0, 1), (1, 2)))
RING = (5, 2)

# No spots of RING for the places of WEB, each for a reason of its own.
NO_SPOTS = [thing for thing in ODD if thing != (0, 1, 2)] + [
    (0, 2, 5), (5, 2, 0), (0, -1, 2), (0, 2, -3), (0, 2, 10 ** 99), (True, 3, 0), (0, 3, True), (False, 2, 0),
    [0, 2, 0], (0, 2), (0, 2, 0, 2), (0, 2, None), (None, None, None), ("0", "2", "0"), "020", (0, 2, (0,)), (0, [2], 0),
    {0: 0, 1: 2, 2: 0}, ((0, 2, 0),), [[0, 2, 0]],
]
# Spots of RING, but less than d apart at a tie, across spot 0 too.
CLASHING = [(0, 1, 3), (0, 2, 3), (0, 4, 2), (4, 0, 2), (2, 4, 0), (2, 0, 4), (3, 3, 0), (0, 1, 2), (0, 0, 0)]
NO_HUES = NO_SPOTS + CLASHING


class HuesHoldTest(Checks):
    def test_hues(self):
        for hues in ((0, 2, 0), (0, 2, 4), (1, 3, 1), (4, 1, 3), (4, 2, 4), (2, 0, 3)):
            self.says(True, hues_hold, WEB, RING, hues)

    def test_what_is_none(self):
        for thing in NO_HUES:
            self.says(False, hues_hold, WEB, RING, thing)

    def test_edges(self):
        self.says(True, hues_hold, (1, ()), (1, 1), (0,))
        self.says(False, hues_hold, (1, ()), (1, 1), (1,))
        self.says(True, hues_hold, (2, ()), (5, 5), (3, 3))
        self.says(False, hues_hold, (2, ((0, 1),)), (1, 1), (0, 0))
        self.says(True, hues_hold, (2, ((0, 1),)), (24, 12), (0, 12))
        self.says(False, hues_hold, (2, ((0, 1),)), (24, 13), (0, 12))
        self.says(True, hues_hold, whole_web(8), (24, 3), tuple(range(0, 24, 3)))
        self.says(False, hues_hold, whole_web(8), (24, 3), tuple(range(0, 21, 3)) + (22,))

    def test_all_rows_of_small_webs(self):
        for web in all_webs(3):
            for ring in rings_to(4):
                for row in itertools.product(range(ring[0]), repeat=3):
                    self.says(plainly_hues(web, ring, row), hues_hold, web, ring, row)

    def test_by_name(self):
        self.says(True, hues_hold, web=WEB, ring=RING, thing=(0, 2, 0))
        self.says(False, hues_hold, thing=(0, 1, 0), ring=RING, web=WEB)


class TurnedTest(Checks):
    def test_steps(self):
        hues = (0, 2, 4)
        for steps, turned in (
            (0, (0, 2, 4)), (1, (1, 3, 0)), (-1, (4, 1, 3)), (5, (0, 2, 4)), (-5, (0, 2, 4)), (7, (2, 4, 1)),
            (-13, (2, 4, 1)), (5 * 10 ** 98 + 1, (1, 3, 0)), (-5 * 10 ** 98 - 1, (4, 1, 3)),
        ):
            self.assertEqual(self.told(turned_on, WEB, RING, hues, steps), turned)

    def test_mirrored(self):
        self.assertEqual(self.told(mirrored_hues, WEB, RING, (0, 2, 4)), (0, 3, 1))
        self.assertEqual(self.told(mirrored_hues, WEB, RING, (4, 1, 3)), (1, 4, 2))
        self.assertEqual(self.told(mirrored_hues, (1, ()), (1, 1), (0,)), (0,))
        self.assertEqual(self.told(mirrored_hues, (3, ()), (24, 5), (0, 12, 23)), (0, 12, 1))

    def test_hues_again(self):
        for web in (WEB, (3, ()), whole_web(3), round_web(5)):
            for ring in ((5, 2), (6, 2), (3, 1)):
                for hues in plain_search(web, ring)[:60]:
                    made = [turned_on(web, ring, hues, steps) for steps in (-7, -1, 0, 1, 2, 30)]
                    made.append(mirrored_hues(web, ring, hues))
                    for row in made:
                        self.says(True, hues_hold, web, ring, row)
                        self.assertIs(type(row), tuple)
                        self.assertTrue(all(type(spot) is int for spot in row))
                    self.assertEqual(mirrored_hues(web, ring, made[-1]), hues)
                    self.assertEqual(turned_on(web, ring, made[4], -2), hues)

    def test_by_name(self):
        self.assertEqual(turned_on(web=WEB, ring=RING, hues=(0, 2, 4), steps=1), (1, 3, 0))
        self.assertEqual(turned_on(steps=1, hues=(0, 2, 4), ring=RING, web=WEB), (1, 3, 0))
        self.assertEqual(mirrored_hues(hues=(0, 2, 4), ring=RING, web=WEB), (0, 3, 1))


class FirstClashTest(Checks):
    def test_ordinary(self):
        self.assertEqual(self.told(first_clash, WEB, RING, (0, 1, 2)), (0, 1))
        self.assertEqual(self.told(first_clash, WEB, RING, (0, 2, 3)), (1, 2))
        self.assertEqual(self.told(first_clash, WEB, RING, (0, 2, 0)), None)
        self.assertEqual(self.told(first_clash, (3, ()), RING, (0, 0, 0)), None)
        self.assertEqual(self.told(first_clash, whole_web(8), (24, 3), (0, 3, 6, 9, 12, 15, 18, 22)), (0, 7))

    def test_all_rows_of_small_webs(self):
        for web in all_webs(3):
            for ring in rings_to(4):
                for row in itertools.product(range(ring[0]), repeat=3):
                    clashes = [tie for tie in web[1] if plain_gap(ring[0], row[tie[0]], row[tie[1]]) < ring[1]]
                    self.assertEqual(first_clash(web, ring, row), clashes[0] if clashes else None)

    def test_clashing_spots_are_no_fault(self):
        for spots in CLASHING:
            self.assertIn(self.told(first_clash, WEB, RING, spots), WEB[1])

    def test_no_spots(self):
        for thing in NO_SPOTS:
            self.refused(NoHues, first_clash, WEB, RING, thing)

    def test_by_name(self):
        self.assertEqual(first_clash(spots=(0, 1, 2), web=WEB, ring=RING), (0, 1))


class RefusalsTest(Checks):
    CALLS = [
        (hues_hold, ()), (turned_on, (1,)), (mirrored_hues, ()), (first_clash, ()),
    ]

    def test_no_web_goes_ahead(self):
        for call, more in self.CALLS:
            for thing in NO_WEBS:
                self.no_web(-1, call, thing, RING, (0, 2, 0), *more)
                self.no_web(-1, call, thing, None, None, *more)

    def test_no_ring_goes_next(self):
        for call, more in self.CALLS:
            for thing in NO_RINGS:
                self.refused(NoRing, call, WEB, thing, (0, 2, 0), *more)
                self.refused(NoRing, call, WEB, thing, None, *more)

    def test_no_hues_goes_last(self):
        for thing in NO_HUES:
            self.refused(NoHues, turned_on, WEB, RING, thing, 1)
            self.refused(NoHues, mirrored_hues, WEB, RING, thing)
