from ringhues.errors import Apart, NoHues, NoRing, NoWeb
from ringhues.hues import hues_hold
from ringhues.moves import moved_hues
from tests.helpers import NO_RINGS, NO_WEBS, Checks, all_webs, length, plain_search, rings_to, round_web
from tests.test_hues import NO_HUES, RING, WEB


def plainly_moved(ring, hues, other):
    """Each spot at the last one there that is not further around than it: not as the program reckons it."""
    return tuple(max(t for t in range(other[0]) if t * ring[0] <= s * other[0]) for s in hues)


class MovedHuesTest(Checks):
    def test_ordinary(self):
        self.assertEqual(self.told(moved_hues, WEB, RING, (0, 2, 4), (3, 1)), (0, 1, 2))
        self.assertEqual(self.told(moved_hues, WEB, RING, (0, 2, 4), (24, 1)), (0, 9, 19))
        self.assertEqual(self.told(moved_hues, WEB, RING, (0, 2, 4), (10, 4)), (0, 4, 8))
        self.assertEqual(self.told(moved_hues, WEB, (10, 4), (1, 5, 9), (5, 2)), (0, 2, 4))
        self.assertEqual(self.told(moved_hues, round_web(5), (5, 2), (0, 2, 4, 1, 3), (8, 3)), (0, 3, 6, 1, 4))

    def test_to_the_ring_itself(self):
        for ring in ((5, 2), (2, 1), (24, 7)):
            for hues in plain_search((2, ((0, 1),)), ring):
                self.assertEqual(moved_hues((2, ((0, 1),)), ring, hues, ring), hues)

    def test_small_webs(self):
        others = rings_to(9) + [(24, 1), (24, 5), (24, 12), (23, 11), (24, 24)]
        for web in list(all_webs(1)) + list(all_webs(2)) + list(all_webs(3)):
            for ring in rings_to(5):
                for hues in plain_search(web, ring)[::3]:
                    for other in others:
                        self.moves(web, ring, hues, other)

    def moves(self, web, ring, hues, other):
        if length(other) < length(ring):
            self.refused(Apart, moved_hues, web, ring, hues, other)
            return
        moved = moved_hues(web, ring, hues, other)
        self.assertEqual(moved, plainly_moved(ring, hues, other))
        self.assertIs(hues_hold(web, other, moved), True, (web, ring, hues, other))
        self.assertTrue(all(type(spot) is int for spot in moved))

    def test_rounds(self):
        for many, ring in ((5, (5, 2)), (7, (7, 3)), (5, (8, 3)), (4, (5, 2))):
            for hues in plain_search(round_web(many), ring)[:40]:
                for other in rings_to(24):
                    self.moves(round_web(many), ring, hues, other)

    def test_shorter_by_a_little(self):
        self.refused(Apart, moved_hues, WEB, (24, 11), (0, 11, 0), (13, 6))
        self.assertEqual(moved_hues(WEB, (13, 6), (0, 6, 0), (24, 11)), (0, 11, 0))
        self.refused(Apart, moved_hues, (1, ()), (24, 23), (0,), (24, 24))
        self.assertEqual(moved_hues((1, ()), (3, 3), (2,), (24, 24)), (16,))

    def test_refusals(self):
        self.takes(moved_hues, "web ring hues other", WEB, RING, (0, 2, 4), (3, 1))
        refusals = [(NoWeb, NO_WEBS), (NoRing, NO_RINGS), (NoHues, NO_HUES), (NoRing, NO_RINGS)]
        self.in_order(moved_hues, (WEB, RING, (0, 2, 4), (3, 1)), refusals)

    def test_shorter_goes_last(self):
        refusals = [(NoWeb, NO_WEBS), (NoRing, NO_RINGS), (NoHues, NO_HUES)]
        self.in_order(moved_hues, (WEB, RING, (0, 2, 4), (2, 1)), refusals)
        self.refused(Apart, moved_hues, WEB, RING, (0, 2, 4), (2, 1))
