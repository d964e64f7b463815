import itertools

from ringhues.changes import put_beside
from ringhues.counts import all_fixed, by_spots, fixed_many, hues_many
from ringhues.errors import NoRing, NoWeb, TooGreat
from ringhues.shortest import has_room
from tests.helpers import (
    NO_RINGS, NO_WEBS, Checks, all_webs, drawn_webs, plain_search, plainly_hues, rings_to, round_web, whole_web,
)

WEB = (3, ((0, 1), (1, 2)))
RING = (5, 2)


def webs_and_rings():
    """Webs and rings small enough for going through all tuples of spots."""
    for many, most in ((1, 8), (2, 8), (3, 5), (4, 4)):
        for web in all_webs(many):
            for ring in rings_to(most):
                yield web, ring
    for web in list(drawn_webs(3, 6)) + list(drawn_webs(4, 6)):
        for ring in ((8, 1), (8, 2), (8, 3), (7, 2), (8, 4), (8, 8)):
            yield web, ring
    for web in list(drawn_webs(5, 6)) + [round_web(5), whole_web(5)]:
        for ring in ((5, 2), (5, 1), (3, 1), (2, 1)):
            yield web, ring


def great_webs():
    """Webs of more than 6 places, and how many they have."""
    for many in (7, 8):
        for web in ((many, ()), round_web(many), whole_web(many)):
            yield web, many


class Few(Checks):
    """What the functions of these files have in common: how great webs and rings may be."""

    def too_great(self, many, most, call, *things):
        wrong = self.refused(TooGreat, call, *things)
        self.assertEqual((wrong.many, wrong.most), (many, most), things)

    def refuses_great_ones(self, call, *more):
        for web, many in great_webs():
            for ring in ((1, 1), (8, 2), (9, 1), (24, 24)):
                self.too_great(many, 6, call, web, ring, *more)
        for k in range(9, 25):
            for d in (1, 2, k):
                for web in ((1, ()), WEB, whole_web(6)):
                    self.too_great(k, 8, call, web, (k, d), *more)

    def goes_ahead(self, call, sound, *more):
        """No web, then no ring, both ahead of great ones."""
        web, ring = sound
        self.in_order(call, (web, ring, *more), [(NoWeb, NO_WEBS), (NoRing, NO_RINGS)])
        self.in_order(call, (web, (24, 1), *more), [(NoWeb, NO_WEBS)])
        self.in_order(call, (whole_web(8), ring, *more), [(NoWeb, NO_WEBS), (NoRing, NO_RINGS)])


class HuesManyTest(Few):
    def test_by_going_through_all_tuples(self):
        numbers = set()
        for web, ring in webs_and_rings():
            rows = plain_search(web, ring)
            fixed = [row for row in rows if row[0] == 0]
            self.assertEqual(hues_many(web, ring), len(rows), (web, ring))
            self.assertEqual(fixed_many(web, ring), len(fixed), (web, ring))
            self.assertEqual(hues_many(web, ring), ring[0] * fixed_many(web, ring))
            self.assertIs(type(hues_many(web, ring)), int)
            self.assertIs(type(fixed_many(web, ring)), int)
            numbers.add(len(rows))
        self.assertIn(0, numbers)
        self.assertGreater(len(numbers), 20)

    def test_without_ties(self):
        for many in range(1, 7):
            for k, d in ((1, 1), (3, 2), (8, 1), (8, 8)):
                self.assertEqual(self.told(hues_many, (many, ()), (k, d)), k ** many)
                self.assertEqual(self.told(fixed_many, (many, ()), (k, d)), k ** (many - 1))

    def test_all_tied(self):
        for many in range(1, 7):
            for k in range(1, 9):
                among = 1
                for place in range(many):
                    among *= max(0, k - place)
                self.assertEqual(self.told(hues_many, whole_web(many), (k, 1)), among)
        # Four places at least 2 apart around 8 spots stand at all even spots, or at all odd ones.
        self.assertEqual(hues_many(whole_web(6), (8, 1)), 20160)
        self.assertEqual(hues_many(whole_web(4), (8, 2)), 48)

    def test_where_there_are_none(self):
        for web, ring in (
            ((2, ((0, 1),)), (1, 1)), ((2, ((0, 1),)), (8, 5)), (round_web(5), (7, 3)), (whole_web(6), (5, 1)),
            (whole_web(6), (8, 2)), ((6, ((4, 5),)), (3, 2)),
        ):
            self.assertEqual(self.told(hues_many, web, ring), 0)
            self.assertEqual(self.told(fixed_many, web, ring), 0)

    def test_six_places_and_eight_spots(self):
        # A line: each next place has all spots but the one ahead, or all but the three near it.
        line = (6, tuple((place, place + 1) for place in range(5)))
        self.assertEqual(self.told(hues_many, line, (8, 1)), 8 * 7 ** 5)
        self.assertEqual(self.told(hues_many, line, (8, 2)), 8 * 5 ** 5)
        # A round of even length n has 7 ** n + 7 plain hues of eight numbers.
        self.assertEqual(self.told(hues_many, round_web(6), (8, 1)), 7 ** 6 + 7)
        self.assertEqual(self.told(hues_many, (6, ()), (8, 3)), 8 ** 6)
        self.assertEqual(self.told(fixed_many, (6, ()), (8, 3)), 8 ** 5)
        self.assertEqual(self.told(hues_many, round_web(6), (8, 4)), 8)

    def test_six_places_by_place_0(self):
        for web in drawn_webs(6, 5):
            for ring in ((4, 1), (4, 2), (5, 2)):
                rows = [(0,) + row for row in itertools.product(range(ring[0]), repeat=5)]
                self.assertEqual(fixed_many(web, ring), len([row for row in rows if plainly_hues(web, ring, row)]))

    def test_refusals(self):
        for call in (hues_many, fixed_many):
            self.takes(call, "web ring", WEB, RING)
            self.refuses_great_ones(call)
            self.goes_ahead(call, (WEB, RING))


class SoTest(Checks):
    def test_webs_beside_one_another(self):
        ones = [(1, ()), (2, ((0, 1),)), WEB, whole_web(3), (3, ())]
        for one, other in itertools.product(ones, repeat=2):
            for ring in rings_to(8):
                both = hues_many(one, ring) * hues_many(other, ring)
                self.assertEqual(hues_many(put_beside(one, other), ring), both, (one, other, ring))

    def test_just_where_there_is_room(self):
        for web in list(all_webs(3)) + list(drawn_webs(5, 10)) + list(drawn_webs(6, 10)):
            for ring in ((1, 1), (2, 1), (3, 1), (3, 2), (5, 2), (6, 2), (7, 3), (7, 2), (8, 3), (8, 2), (8, 5)):
                self.assertIs(hues_many(web, ring) > 0, has_room(web, ring), (web, ring))
                self.assertIs(fixed_many(web, ring) > 0, has_room(web, ring))

    def test_no_fewer_with_a_spot_more(self):
        for web in list(all_webs(3)) + list(drawn_webs(5, 10)) + list(drawn_webs(6, 5)):
            for d in range(1, 8):
                numbers = [hues_many(web, (k, d)) for k in range(d, 9)]
                self.assertEqual(numbers, sorted(numbers))


class AllFixedTest(Few):
    def test_by_going_through_all_tuples(self):
        for web, ring in webs_and_rings():
            rows = [row for row in plain_search(web, ring) if row[0] == 0]
            if len(rows) > 300:
                self.too_great(len(rows), 300, all_fixed, web, ring)
            else:
                told = all_fixed(web, ring)
                self.assertEqual(told, rows)
                self.assertEqual(told, sorted(told))
                self.assertTrue(all(type(row) is tuple and type(spot) is int for row in told for spot in row))

    def test_ordinary(self):
        self.assertEqual(self.told(all_fixed, (1, ()), (8, 8)), [(0,)])
        self.assertEqual(self.told(all_fixed, round_web(5), (5, 2)), [(0, 2, 4, 1, 3), (0, 3, 1, 4, 2)])
        self.assertEqual(self.told(all_fixed, WEB, (4, 2)), [(0, 2, 0)])
        self.assertEqual(self.told(all_fixed, (2, ()), (3, 3)), [(0, 0), (0, 1), (0, 2)])
        self.assertEqual(self.told(all_fixed, whole_web(6), (6, 1)), [
            (0,) + row for row in itertools.permutations(range(1, 6))
        ])

    def test_none(self):
        self.assertEqual(self.told(all_fixed, round_web(5), (7, 3)), [])
        self.assertEqual(self.told(all_fixed, (2, ((0, 1),)), (1, 1)), [])
        self.assertEqual(self.told(all_fixed, whole_web(6), (8, 2)), [])

    def test_just_300(self):
        # Three places tied and a line of two more at one of them: 12 ways, then 5, then 5.
        for web in ((5, ((0, 4), (1, 3), (1, 4), (2, 3), (3, 4))), (5, ((0, 1), (0, 3), (1, 3), (1, 4), (2, 4)))):
            told = self.told(all_fixed, web, (8, 2))
            self.assertEqual(len(told), 300)
            self.assertEqual(told, [row for row in plain_search(web, (8, 2)) if row[0] == 0])

    def test_more_than_300(self):
        self.too_great(301, 300, all_fixed, round_web(4), (8, 1))
        self.too_great(343, 300, all_fixed, (4, ((0, 1), (1, 2), (2, 3))), (8, 1))
        self.too_great(512, 300, all_fixed, (4, ()), (8, 1))
        self.too_great(2520, 300, all_fixed, whole_web(6), (8, 1))
        self.too_great(7 ** 5, 300, all_fixed, (6, tuple((0, place) for place in range(1, 6))), (8, 1))
        self.too_great(8 ** 5, 300, all_fixed, (6, ()), (8, 8))

    def test_the_list_is_the_askers_own(self):
        told = all_fixed(round_web(5), (5, 2))
        self.assertIs(type(told), list)
        told.reverse()
        told.append(None)
        self.assertEqual(all_fixed(round_web(5), (5, 2)), [(0, 2, 4, 1, 3), (0, 3, 1, 4, 2)])

    def test_refusals(self):
        self.takes(all_fixed, "web ring", WEB, RING)
        self.refuses_great_ones(all_fixed)
        self.goes_ahead(all_fixed, (WEB, RING))
        self.goes_ahead(all_fixed, ((6, ()), (8, 1)))


class BySpotsTest(Few):
    def test_each_number_is_what_hues_many_tells(self):
        webs = list(all_webs(1)) + list(all_webs(2)) + list(all_webs(3)) + list(drawn_webs(5, 6)) + list(drawn_webs(6, 6))
        for web in webs + [(6, ()), whole_web(6), round_web(6)]:
            for d in range(1, 5):
                told = by_spots(web, d)
                self.assertEqual(told, [hues_many(web, (k, d)) if k >= d else 0 for k in range(9)])
                self.assertEqual([type(number) for number in told], [int] * 9)

    def test_ordinary(self):
        self.assertEqual(self.told(by_spots, (1, ()), 1), [0, 1, 2, 3, 4, 5, 6, 7, 8])
        self.assertEqual(self.told(by_spots, (1, ()), 4), [0, 0, 0, 0, 4, 5, 6, 7, 8])
        self.assertEqual(self.told(by_spots, (2, ()), 3), [0, 0, 0, 9, 16, 25, 36, 49, 64])
        self.assertEqual(self.told(by_spots, (2, ((0, 1),)), 2), [0, 0, 0, 0, 4, 10, 18, 28, 40])
        self.assertEqual(self.told(by_spots, (2, ((0, 1),)), 4), [0] * 8 + [8])
        self.assertEqual(self.told(by_spots, whole_web(3), 1), [0, 0, 0, 6, 24, 60, 120, 210, 336])
        # A round of five has (k - 1) ** 5 - (k - 1) plain hues of k numbers.
        self.assertEqual(self.told(by_spots, round_web(5), 1), [0, 0, 0, 30, 240, 1020, 3120, 7770, 16800])
        self.assertEqual(self.told(by_spots, round_web(5), 2), [0, 0, 0, 0, 0, 10, 180, 910, 2960])

    def test_somewhat_beyond(self):
        self.assertEqual(by_spots((2, ()), 5), [0, 0, 0, 0, 0, 25, 36, 49, 64])
        self.assertEqual(by_spots((2, ((0, 1),)), 5), [0] * 9)
        self.assertEqual(by_spots((2, ()), 9), [0] * 9)
        self.assertEqual(by_spots((2, ((0, 1),)), 0), [k * k for k in range(9)])

    def test_the_list_is_the_askers_own(self):
        told = by_spots(WEB, 2)
        kept = list(told)
        self.assertIs(type(told), list)
        told.clear()
        self.assertEqual(by_spots(WEB, 2), kept)

    def test_refusals(self):
        self.takes(by_spots, "web d", WEB, 2)
        self.in_order(by_spots, (WEB, 2), [(NoWeb, NO_WEBS)])
        for web, many in great_webs():
            for d in (1, 4):
                self.too_great(many, 6, by_spots, web, d)
