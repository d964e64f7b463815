import itertools
import math

from ringhues.errors import NoHues, NoRing, NoWeb, TooGreat
from ringhues.hues import hues_hold
from ringhues.plain import fewest_plain, first_plain, plain_by, plain_hold, ring_by
from ringhues.rings import is_ring
from ringhues.shortest import shortest, shortest_hues
from tests.helpers import (
    NO_RINGS, NO_WEBS, ODD, Checks, all_webs, drawn_webs, length, plain_search, rings_to, round_web, whole_web,
)
from tests.test_hues import NO_HUES, RING, WEB

NO_PLAIN = [thing for thing in ODD if thing != (0, 1, 2)] + [
    (0, 0, 1), (1, 0, 0), (5, 5, 5), (10 ** 99, 10 ** 99, 0), (-1, 0, 1), (0, 1, -1), (0, -(10 ** 98), 0), [0, 1, 0],
    (True, 0, True), (0, True, 0), (0, 1, False), (0, 1), (0, 1, 0, 1), "010", ("0", "1", "0"), (0, None, 0), (0, (1,), 0),
    (0, [1], 0), (0, 1, {}), {0: 0, 1: 1, 2: 0}, ((0, 1, 0),), (0, 1, "0"), (None, None, None), ([], {}, ()),
]


def plainly_plain_hues(web, row):
    return all(row[i] != row[j] for i, j in web[1])


def plain_fewest(web):
    """The fewest numbers and the first plain hues of numbers less than that, by going through all."""
    for many in range(1, web[0] + 1):
        for row in itertools.product(range(many), repeat=web[0]):
            if plainly_plain_hues(web, row):
                return many, row


class PlainHoldTest(Checks):
    def test_plain_hues(self):
        for row in ((0, 1, 0), (0, 1, 2), (7, 0, 7), (0, 10 ** 99, 0), (10 ** 99, 10 ** 99 - 1, 10 ** 99), (24, 25, 8)):
            self.says(True, plain_hold, WEB, row)
        self.says(True, plain_hold, (1, ()), (10 ** 99,))
        self.says(True, plain_hold, (8, ()), (3,) * 8)
        self.says(True, plain_hold, whole_web(8), tuple(range(7, -1, -1)))
        self.says(False, plain_hold, whole_web(8), tuple(range(7)) + (0,))

    def test_what_is_none(self):
        for thing in NO_PLAIN:
            self.says(False, plain_hold, WEB, thing)

    def test_all_rows_of_small_webs(self):
        for web in all_webs(3):
            for row in itertools.product(range(-1, 3), repeat=3):
                self.says(min(row) >= 0 and plainly_plain_hues(web, row), plain_hold, web, row)

    def test_refusals(self):
        self.takes(plain_hold, "web thing", WEB, (0, 1, 0))
        self.in_order(plain_hold, (WEB, (0, 1, 0)), [(NoWeb, NO_WEBS)])


class FewestPlainTest(Checks):
    def test_by_a_plain_search(self):
        webs = [web for many in range(1, 5) for web in all_webs(many)] + list(drawn_webs(5, 20)) + list(drawn_webs(6, 10))
        for web in webs:
            many, row = plain_fewest(web)
            self.assertEqual(self.told(fewest_plain, web), many, web)
            self.assertEqual(self.told(first_plain, web), row, web)
            self.assertIs(type(fewest_plain(web)), int)
            self.assertEqual(len(set(row)), many)

    def test_all_tied(self):
        for many in range(1, 9):
            self.assertEqual(self.told(fewest_plain, whole_web(many)), many)
            self.assertEqual(self.told(first_plain, whole_web(many)), tuple(range(many)))

    def test_without_ties(self):
        for many in range(1, 9):
            self.assertEqual(self.told(fewest_plain, (many, ())), 1)
            self.assertEqual(self.told(first_plain, (many, ())), (0,) * many)

    def test_ordinary(self):
        self.assertEqual(self.told(fewest_plain, round_web(5)), 3)
        self.assertEqual(self.told(first_plain, round_web(5)), (0, 1, 0, 1, 2))
        self.assertEqual(self.told(fewest_plain, round_web(8)), 2)
        # Going along and taking the least number that is free would need three numbers.
        self.assertEqual(self.told(first_plain, (4, ((0, 2), (1, 3), (2, 3)))), (0, 1, 1, 0))

    def test_the_shortest_rings_length_rounded_up(self):
        webs = [web for many in range(2, 5) for web in all_webs(many)] + list(drawn_webs(7, 20)) + list(drawn_webs(8, 20))
        for web in webs:
            if web[1]:
                self.assertEqual(fewest_plain(web), math.ceil(length(shortest(web))), web)
            plain = first_plain(web)
            self.assertIs(plain_hold(web, plain), True)
            self.assertEqual(len(set(plain)), fewest_plain(web))

    def test_refusals(self):
        for call in (fewest_plain, first_plain):
            self.takes(call, "web", WEB)
            self.in_order(call, (WEB,), [(NoWeb, NO_WEBS)])


class PlainByTest(Checks):
    def test_hues_on_several_rings(self):
        for web in list(all_webs(1)) + list(all_webs(2)) + list(all_webs(3)) + [round_web(4), whole_web(4)]:
            for ring in rings_to(6):
                for hues in plain_search(web, ring)[::2]:
                    plain = plain_by(web, ring, hues)
                    self.assertEqual(plain, tuple(math.floor(spot / ring[1]) for spot in hues))
                    self.assertIs(plain_hold(web, plain), True)
                    self.assertLess(max(plain), math.ceil(length(ring)))

    def test_ordinary(self):
        self.assertEqual(self.told(plain_by, round_web(5), (5, 2), (0, 2, 4, 1, 3)), (0, 1, 2, 0, 1))
        self.assertEqual(self.told(plain_by, WEB, (24, 7), (6, 23, 14)), (0, 3, 2))
        self.assertEqual(self.told(plain_by, WEB, (24, 1), (23, 22, 0)), (23, 22, 0))
        self.assertEqual(self.told(plain_by, (2, ()), (24, 24), (23, 0)), (0, 0))

    def test_of_the_shortest_ring(self):
        for web in drawn_webs(8, 20):
            plain = plain_by(web, shortest(web), shortest_hues(web))
            self.assertIs(plain_hold(web, plain), True)
            self.assertLessEqual(max(plain) + 1, fewest_plain(web))

    def test_refusals(self):
        self.takes(plain_by, "web ring hues", WEB, RING, (0, 2, 4))
        self.in_order(plain_by, (WEB, RING, (0, 2, 4)), [(NoWeb, NO_WEBS), (NoRing, NO_RINGS), (NoHues, NO_HUES)])


class RingByTest(Checks):
    def test_ordinary(self):
        self.assertEqual(self.told(ring_by, WEB, (0, 1, 0)), ((2, 1), (0, 1, 0)))
        self.assertEqual(self.told(ring_by, WEB, (0, 1, 2)), ((3, 1), (0, 1, 2)))
        self.assertEqual(self.told(ring_by, WEB, (11, 1, 0)), ((12, 1), (11, 1, 0)))
        self.assertEqual(self.told(ring_by, (1, ()), (0,)), ((2, 1), (0,)))
        self.assertEqual(self.told(ring_by, (8, ()), (0,) * 8), ((2, 1), (0,) * 8))
        self.assertEqual(self.told(ring_by, (8, ()), (1,) * 8), ((2, 1), (1,) * 8))
        self.assertEqual(self.told(ring_by, (8, ()), (2,) * 8), ((3, 1), (2,) * 8))

    def test_hues_on_the_ring(self):
        for web in list(all_webs(2)) + list(all_webs(3)):
            for row in itertools.product((0, 1, 2, 5, 11), repeat=web[0]):
                if plainly_plain_hues(web, row):
                    ring, hues = ring_by(web, row)
                    self.assertEqual((ring, hues), ((max(2, max(row) + 1), 1), row))
                    self.assertIs(is_ring(ring) and hues_hold(web, ring, hues), True)
                    self.assertEqual(plain_by(web, ring, hues), row)

    def test_too_great(self):
        for row, most in (((0, 12, 0), 12), ((13, 12, 13), 13), ((0, 1, 10 ** 99), 10 ** 99), ((40, 3, 5), 40)):
            wrong = self.refused(TooGreat, ring_by, WEB, row)
            self.assertEqual((wrong.many, wrong.most), (most, 11))

    def test_no_plain_hues_go_ahead_of_great_ones(self):
        for row in ((12, 12, 0), (12, -1, 0), (12, 0, True), [12, 0, 12], (99, 98), (10 ** 99, 10 ** 99, 1)):
            self.refused(NoHues, ring_by, WEB, row)

    def test_refusals(self):
        self.takes(ring_by, "web plain", WEB, (0, 1, 2))
        self.in_order(ring_by, (WEB, (0, 1, 2)), [(NoWeb, NO_WEBS), (NoHues, NO_PLAIN)])
        self.in_order(ring_by, (WEB, (0, 12, 0)), [(NoWeb, NO_WEBS)])
