from ringhues.errors import NoHues, NoRing
from ringhues.rings import is_ring, steps_apart
from tests.helpers import NO_RINGS, ODD, Checks, plain_gap


class IsRingTest(Checks):
    def test_all_rings(self):
        for k in range(-2, 30):
            for d in range(-2, 30):
                self.says(1 <= k <= 24 and 1 <= d <= k, is_ring, (k, d))

    def test_what_is_none(self):
        for thing in NO_RINGS:
            self.says(False, is_ring, thing)

    def test_by_name(self):
        self.says(True, is_ring, thing=(5, 2))


class StepsApartTest(Checks):
    def test_all_spots(self):
        for ring in ((1, 1), (2, 1), (3, 3), (8, 3), (9, 2), (23, 1), (24, 24)):
            for one in range(ring[0]):
                for other in range(ring[0]):
                    self.assertEqual(self.told(steps_apart, ring, one, other), plain_gap(ring[0], one, other))

    def test_ordinary(self):
        self.assertEqual(steps_apart((8, 3), 0, 4), 4)
        self.assertEqual(steps_apart((8, 3), 7, 0), 1)
        self.assertEqual(steps_apart((8, 3), 0, 7), 1)
        self.assertEqual(steps_apart((9, 3), 1, 6), 4)
        self.assertEqual(steps_apart((9, 3), 5, 5), 0)

    def test_no_ring_goes_ahead(self):
        for thing in NO_RINGS:
            self.refused(NoRing, steps_apart, thing, 0, 0)
            self.refused(NoRing, steps_apart, thing, None, None)

    def test_no_spot(self):
        for thing in [thing for thing in ODD if thing not in (0, 1, 2) or isinstance(thing, bool)] + [
            5, -1, True, False, "0", (0,), [0], None, 10 ** 99,
        ]:
            self.refused(NoHues, steps_apart, (5, 2), thing, 0)
            self.refused(NoHues, steps_apart, (5, 2), 0, thing)
            self.refused(NoHues, steps_apart, (5, 2), thing, thing)

    def test_by_name(self):
        self.assertEqual(steps_apart(ring=(5, 2), one=4, other=1), 2)
        self.assertEqual(steps_apart(other=1, one=4, ring=(5, 2)), 2)
        self.refused(NoHues, steps_apart, ring=(5, 2), one=5, other=1)
        self.refused(NoRing, steps_apart, ring=5, one=5, other=1)
