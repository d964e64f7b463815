import itertools

from ringhues.errors import NoRing, TooGreat
from ringhues.maps import first_map
from ringhues.rings import steps_apart
from ringhues.ringwebs import leads, ring_web
from ringhues.shortest import shortest
from ringhues.webs import is_web
from tests.helpers import NO_RINGS, Checks, length, rings_to, whole_web


class RingWebTest(Checks):
    def test_by_steps_apart(self):
        for ring in rings_to(8):
            web = self.told(ring_web, ring)
            pairs = itertools.combinations(range(ring[0]), 2)
            apart = tuple((i, j) for i, j in pairs if steps_apart(ring, i, j) >= ring[1])
            self.assertEqual(repr(web), repr((ring[0], apart)))
            self.assertIs(is_web(web), True)
            self.assertIs(web[1] == (), length(ring) < 2)

    def test_ordinary(self):
        self.assertEqual(self.told(ring_web, (1, 1)), (1, ()))
        self.assertEqual(self.told(ring_web, (3, 2)), (3, ()))
        self.assertEqual(self.told(ring_web, (8, 8)), (8, ()))
        self.assertEqual(self.told(ring_web, (8, 1)), whole_web(8))
        self.assertEqual(self.told(ring_web, (4, 2)), (4, ((0, 2), (1, 3))))
        self.assertEqual(self.told(ring_web, (5, 2)), (5, ((0, 2), (0, 3), (1, 3), (1, 4), (2, 4))))

    def test_the_shortest_ring_is_as_long(self):
        for ring in rings_to(8):
            if length(ring) >= 2:
                self.assertEqual(length(shortest(ring_web(ring))), length(ring))

    def test_too_great(self):
        for k in range(9, 25):
            for d in range(1, k + 1):
                wrong = self.refused(TooGreat, ring_web, (k, d))
                self.assertEqual((wrong.many, wrong.most), (k, 8))

    def test_refusals(self):
        self.takes(ring_web, "ring", (5, 2))
        self.in_order(ring_web, ((5, 2),), [(NoRing, NO_RINGS + [(9, 10), (9, 0), (25, 2), [9, 2], (9, True)])])


class LeadsTest(Checks):
    def test_by_the_first_map(self):
        rings = rings_to(7) + [(8, 1), (8, 2), (8, 3), (8, 4), (8, 5)]
        for one, other in itertools.product(rings, repeat=2):
            self.says(first_map(ring_web(one), ring_web(other)) is not None, leads, one, other)

    def test_by_lengths(self):
        rings = rings_to(24)[::7] + [(24, 12), (24, 11), (24, 13), (23, 11), (23, 12), (13, 6), (24, 24), (24, 1)]
        for one, other in itertools.product(rings, repeat=2):
            self.assertIs(leads(one, other), length(one) < 2 or length(other) >= length(one), (one, other))

    def test_ordinary(self):
        self.says(True, leads, (5, 2), (3, 1))
        self.says(False, leads, (3, 1), (5, 2))
        self.says(True, leads, (5, 2), (10, 4))
        self.says(True, leads, (10, 4), (5, 2))
        self.says(False, leads, (24, 11), (13, 6))
        self.says(True, leads, (13, 6), (24, 11))
        self.says(True, leads, (23, 12), (24, 24))
        self.says(True, leads, (24, 24), (24, 24))
        self.says(False, leads, (24, 12), (23, 12))
        self.says(True, leads, (24, 12), (2, 1))

    def test_refusals(self):
        self.takes(leads, "one other", (5, 2), (3, 1))
        for one, other in (((5, 2), (3, 1)), ((3, 1), (5, 2)), ((3, 2), (1, 1))):
            self.in_order(leads, (one, other), [(NoRing, NO_RINGS), (NoRing, NO_RINGS)])
