import math

from ringhues.errors import NoRing, NoWeb
from ringhues.hues import hues_hold
from ringhues.rings import is_ring
from ringhues.shortest import has_room, plain_rings, shortest, shortest_hues
from tests.helpers import (
    NO_RINGS, NO_WEBS, Checks, all_webs, drawn_webs, length, plain_first, plain_search, plain_shortest, rings_to,
    round_web, whole_web,
)


def plainly_plain(ring):
    k, d = ring
    return math.gcd(k, d) == 1 and (ring == (1, 1) or k >= 2 * d)


class PlainRingsTest(Checks):
    def test_each_number_by_a_plain_search(self):
        for most in range(1, 13):
            rings = self.told(plain_rings, most)
            self.assertEqual(rings, sorted(filter(plainly_plain, rings_to(most)), key=length))
            self.assertIs(type(rings), list)
            self.assertEqual(rings[0], (1, 1))
            lengths = [length(ring) for ring in rings]
            self.assertTrue(all(one < other for one, other in zip(lengths, lengths[1:])))
            for ring in rings:
                self.says(True, is_ring, ring)

    def test_ordinary(self):
        self.assertEqual(plain_rings(1), [(1, 1)])
        self.assertEqual(plain_rings(2), [(1, 1), (2, 1)])
        self.assertEqual(plain_rings(5), [(1, 1), (2, 1), (5, 2), (3, 1), (4, 1), (5, 1)])
        self.assertEqual(plain_rings(7)[:5], [(1, 1), (2, 1), (7, 3), (5, 2), (3, 1)])

    def test_somewhat_beyond(self):
        self.assertEqual(plain_rings(0), [])
        self.assertEqual(plain_rings(-1), [])
        for most in (13, 14, 23, 24):
            self.assertEqual(plain_rings(most), sorted(filter(plainly_plain, rings_to(most)), key=length))
        # There is no ring with more spots.
        self.assertEqual(plain_rings(25), plain_rings(24))

    def test_the_list_is_the_askers_own(self):
        rings = plain_rings(6)
        kept = list(rings)
        rings.reverse()
        rings[0] = None
        rings.pop()
        self.assertEqual(plain_rings(6), kept)
        self.assertEqual(shortest(whole_web(6)), (6, 1))

    def test_by_name(self):
        self.takes(plain_rings, "most", 5)


class HasRoomTest(Checks):
    def test_without_ties(self):
        for many in range(1, 9):
            for ring in rings_to(24):
                self.assertIs(has_room((many, ()), ring), True)

    def test_with_ties_on_rings_of_a_length_below_two(self):
        for ring in rings_to(24):
            for web in ((2, ((0, 1),)), (8, ((3, 7),))):
                self.assertIs(has_room(web, ring), length(ring) >= 2, (web, ring))

    def test_rounds_just_long_enough(self):
        for many in range(3, 9):
            least = 2 if many % 2 == 0 else length((many, many // 2))
            for ring in rings_to(24):
                self.assertIs(has_room(round_web(many), ring), length(ring) >= least, (many, ring))

    def test_all_tied_just_long_enough(self):
        for many in range(2, 9):
            for ring in rings_to(24):
                self.assertIs(has_room(whole_web(many), ring), length(ring) >= many, (many, ring))

    def test_ordinary(self):
        self.says(True, has_room, round_web(5), (5, 2))
        self.says(True, has_room, round_web(5), (10, 4))
        self.says(False, has_room, round_web(5), (7, 3))
        self.says(False, has_room, round_web(5), (24, 10))
        self.says(True, has_room, whole_web(8), (24, 3))
        self.says(False, has_room, whole_web(8), (23, 3))

    def test_small_webs_by_a_plain_search(self):
        for many, most in ((1, 6), (2, 6), (3, 6), (4, 4)):
            for web in all_webs(many):
                for ring in rings_to(most):
                    self.says(bool(plain_search(web, ring)), has_room, web, ring)

    def test_as_long_and_longer(self):
        rings = sorted(rings_to(16), key=length)
        for web in list(drawn_webs(5, 8)) + list(drawn_webs(7, 8)) + list(drawn_webs(8, 8)):
            least = length(plain_shortest(web))
            for ring in rings:
                self.assertIs(has_room(web, ring), length(ring) >= least or not web[1], (web, ring))

    def test_refusals(self):
        self.takes(has_room, "web ring", round_web(5), (5, 2))
        self.in_order(has_room, (round_web(5), (5, 2)), [(NoWeb, NO_WEBS), (NoRing, NO_RINGS)])


class ShortestTest(Checks):
    def both(self, web):
        """The shortest ring, held against a plain search, and the first hues there."""
        ring = shortest(web)
        self.assertEqual(ring, plain_shortest(web), web)
        self.assertEqual([type(number) for number in ring], [int, int])
        self.assertTrue(plainly_plain(ring))
        self.assertLessEqual(ring[0], web[0])
        self.assertEqual(shortest_hues(web), plain_first(web, ring))

    def test_without_ties(self):
        for many in range(1, 9):
            self.assertEqual(self.told(shortest, (many, ())), (1, 1))
            self.assertEqual(self.told(shortest_hues, (many, ())), (0,) * many)

    def test_rounds(self):
        for many in range(3, 9):
            ring = (2, 1) if many % 2 == 0 else (many, many // 2)
            self.assertEqual(self.told(shortest, round_web(many)), ring)
            self.both(round_web(many))
        self.assertEqual(self.told(shortest_hues, round_web(5)), (0, 2, 4, 1, 3))
        self.assertEqual(self.told(shortest_hues, round_web(6)), (0, 1, 0, 1, 0, 1))

    def test_all_tied(self):
        for many in range(1, 9):
            self.assertEqual(self.told(shortest, whole_web(many)), (many, 1))
            self.assertEqual(self.told(shortest_hues, whole_web(many)), tuple(range(many)))

    def test_all_small_webs(self):
        for many in range(1, 5):
            for web in all_webs(many):
                self.both(web)

    def test_drawn_webs(self):
        for many in (5, 6, 7, 8):
            for web in drawn_webs(many, 25):
                self.both(web)

    def test_between_whole_lengths(self):
        # The webs of the rings (7, 2) and (8, 3), and a round of seven with two more ties.
        for ring in ((7, 2), (8, 3)):
            apart = [(i, j) for i, j in whole_web(ring[0])[1] if ring[1] <= j - i <= ring[0] - ring[1]]
            self.assertEqual(self.told(shortest, (ring[0], tuple(apart))), ring)
            self.says(True, hues_hold, (ring[0], tuple(apart)), ring, shortest_hues((ring[0], tuple(apart))))
        self.both((7, tuple(sorted(round_web(7)[1] + ((0, 2), (3, 5))))))

    def test_refusals(self):
        for call in (shortest, shortest_hues):
            self.takes(call, "web", round_web(5))
            self.in_order(call, (round_web(5),), [(NoWeb, NO_WEBS)])
