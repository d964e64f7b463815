import itertools

from ringhues.errors import NoHues, NoMap, NoRing, NoWeb
from ringhues.found import first_hues
from ringhues.hues import hues_hold
from ringhues.maps import first_map, led_hues, map_holds
from ringhues.ringwebs import ring_web
from ringhues.shortest import shortest
from tests.helpers import (
    NO_RINGS, NO_WEBS, ODD, Checks, all_webs, drawn_webs, length, plain_search, rings_to, round_web, whole_web,
)
from tests.test_hues import NO_HUES, RING, WEB

FIVE = round_web(5)
PAIR = (2, ((0, 1),))
# The maps of WEB to PAIR are (0, 1, 0) and (1, 0, 1) alone.
NO_MAPS = ODD + [
    (0, 0, 0), (0, 0, 1), (0, 1, 1), (1, 1, 0), (0, 1, 2), (0, 2, 0), (2, 1, 2), (0, 1, -1), (0, -1, 0), (0, 1, 10 ** 99),
    (False, 1, 0), (0, True, 0), (0, 1, False), (True, False, True), (0, 1), (0, 1, 0, 1), [0, 1, 0], "010",
    ("0", "1", "0"), (0, None, 0), (None, 1, 0), (0, (1,), 0), (0, [1], 0), {0: 0, 1: 1, 2: 0}, ((0, 1, 0),),
    (0, 1, {}), [(0, 1, 0)],
]


def plainly_map(web, other, row):
    return all((row[i], row[j]) in other[1] or (row[j], row[i]) in other[1] for i, j in web[1])


def plain_maps(web, other):
    """All maps, as tuples rise, by going through all rows."""
    return [row for row in itertools.product(range(other[0]), repeat=web[0]) if plainly_map(web, other, row)]


def small_webs():
    return [web for many in (1, 2, 3) for web in all_webs(many)]


class MapHoldsTest(Checks):
    def test_all_rows_of_small_webs(self):
        for web, other in itertools.product(small_webs(), repeat=2):
            for row in itertools.product(range(-1, other[0] + 1), repeat=web[0]):
                inside = all(0 <= place < other[0] for place in row)
                self.assertIs(map_holds(web, other, row), inside and plainly_map(web, other, row), (web, other, row))

    def test_ordinary(self):
        self.says(True, map_holds, WEB, PAIR, (0, 1, 0))
        self.says(True, map_holds, WEB, PAIR, (1, 0, 1))
        self.says(True, map_holds, FIVE, FIVE, (4, 0, 1, 2, 3))
        self.says(True, map_holds, FIVE, FIVE, (3, 2, 1, 0, 4))
        self.says(False, map_holds, FIVE, FIVE, (0, 1, 2, 4, 3))
        self.says(True, map_holds, round_web(7), FIVE, (0, 1, 0, 1, 2, 3, 4))
        self.says(True, map_holds, (8, ()), (1, ()), (0,) * 8)
        self.says(True, map_holds, whole_web(8), whole_web(8), (7, 6, 5, 4, 3, 2, 1, 0))
        self.says(False, map_holds, whole_web(8), whole_web(8), (7, 6, 5, 4, 3, 2, 1, 7))
        self.says(False, map_holds, PAIR, (2, ()), (0, 1))

    def test_what_is_none(self):
        for thing in NO_MAPS:
            self.says(False, map_holds, WEB, PAIR, thing)

    def test_refusals(self):
        self.takes(map_holds, "web other thing", WEB, PAIR, (0, 1, 0))
        self.in_order(map_holds, (WEB, PAIR, (0, 1, 0)), [(NoWeb, NO_WEBS), (NoWeb, NO_WEBS)])


class FirstMapTest(Checks):
    def holds(self, web, other):
        maps = plain_maps(web, other)
        self.assertEqual(repr(first_map(web, other)), repr(maps[0] if maps else None), (web, other))

    def test_by_going_through_all_rows(self):
        for web, other in itertools.product(small_webs(), repeat=2):
            self.holds(web, other)
        fours = list(all_webs(4))
        for web, other in itertools.product(fours[::3], fours[::5]):
            self.holds(web, other)
        for web, other in zip(drawn_webs(5, 30), list(drawn_webs(5, 31))[::-1]):
            self.holds(web, other)
        for web, other in zip(drawn_webs(6, 10), list(drawn_webs(4, 10))[::-1]):
            self.holds(web, other)

    def test_spots_are_not_all_alike(self):
        # To a place without ties nothing tied is led, so the first place is not the first spot.
        self.assertEqual(self.told(first_map, PAIR, (3, ((1, 2),))), (1, 2))
        self.assertEqual(self.told(first_map, whole_web(3), (5, ((0, 1), (1, 2), (2, 3), (2, 4), (3, 4)))), (2, 3, 4))
        self.assertEqual(self.told(first_map, (3, ((1, 2),)), (3, ((1, 2),))), (0, 1, 2))

    def test_ordinary(self):
        self.assertEqual(self.told(first_map, FIVE, FIVE), (0, 1, 2, 3, 4))
        self.assertEqual(self.told(first_map, round_web(7), FIVE), (0, 1, 0, 1, 2, 3, 4))
        self.assertEqual(self.told(first_map, round_web(8), PAIR), (0, 1) * 4)
        self.assertEqual(self.told(first_map, (8, ()), whole_web(8)), (0,) * 8)
        self.assertEqual(self.told(first_map, (1, ()), (1, ())), (0,))
        self.assertEqual(self.told(first_map, whole_web(8), whole_web(8)), tuple(range(8)))

    def test_none(self):
        for web, other in (
            (FIVE, round_web(7)), (whole_web(3), FIVE), (PAIR, (1, ())), (PAIR, (8, ())), (whole_web(8), whole_web(7)),
            (whole_web(8), (8, whole_web(8)[1][:-1])), (round_web(7), round_web(8)),
        ):
            self.assertIsNone(self.told(first_map, web, other))

    def test_to_the_web_of_a_ring_it_is_the_first_hues(self):
        webs = small_webs() + list(drawn_webs(5, 5)) + list(drawn_webs(8, 6)) + [FIVE, round_web(7), whole_web(8)]
        for web in webs:
            for ring in rings_to(8):
                self.assertEqual(first_map(web, ring_web(ring)), first_hues(web, ring), (web, ring))

    def test_maps_to_the_web_of_a_ring_are_hues(self):
        for web in list(all_webs(3)):
            for ring in rings_to(5):
                for row in itertools.product(range(ring[0]), repeat=3):
                    self.assertIs(map_holds(web, ring_web(ring), row), hues_hold(web, ring, row))

    def test_great_webs(self):
        for web, other in zip(drawn_webs(8, 30), list(drawn_webs(8, 31))[::-1]):
            row = self.told(first_map, web, other)
            if row is not None:
                self.assertIs(map_holds(web, other, row), True)
                self.assertLessEqual(length(shortest(web)), length(shortest(other)))

    def test_refusals(self):
        self.takes(first_map, "web other", WEB, PAIR)
        self.in_order(first_map, (WEB, PAIR), [(NoWeb, NO_WEBS), (NoWeb, NO_WEBS)])


def led_by_rank(web, other, ring, row, hues):
    """led_hues, with what is handed in in the order in which it is looked at."""
    return led_hues(web, other, row, ring, hues)


class LedHuesTest(Checks):
    def test_ordinary(self):
        self.assertEqual(self.told(led_hues, WEB, PAIR, (0, 1, 0), RING, (3, 1)), (3, 1, 3))
        self.assertEqual(self.told(led_hues, WEB, PAIR, (1, 0, 1), (24, 12), (0, 12)), (12, 0, 12))
        self.assertEqual(
            self.told(led_hues, round_web(7), FIVE, (0, 1, 0, 1, 2, 3, 4), (5, 2), (0, 2, 4, 1, 3)), (0, 2, 0, 2, 4, 1, 3),
        )
        self.assertEqual(self.told(led_hues, (3, ()), (1, ()), (0, 0, 0), (1, 1), (0,)), (0, 0, 0))

    def test_several_maps_and_hues(self):
        pairs = [(WEB, whole_web(3)), (WEB, WEB), (whole_web(3), whole_web(4)), ((2, ()), WEB), (round_web(4), PAIR)]
        for web, other in pairs + list(zip(drawn_webs(4, 6), list(drawn_webs(4, 7)))):
            for ring in ((2, 1), (5, 2), (3, 1), (4, 1), (3, 3)):
                for row in plain_maps(web, other)[:20:3]:
                    for hues in plain_search(other, ring)[:60:7]:
                        led = led_hues(web, other, row, ring, hues)
                        self.assertEqual(led, tuple(hues[row[place]] for place in range(web[0])))
                        self.assertIs(hues_hold(web, ring, led), True)

    def test_refusals(self):
        self.takes(led_hues, "web other row ring hues", WEB, PAIR, (0, 1, 0), RING, (3, 1))
        no_hues = [thing for thing in NO_HUES if thing != (0, 2)] + [(0, 1), (4, 0), (3, 3), (0, 5), [0, 2]]
        refusals = [(NoWeb, NO_WEBS), (NoWeb, NO_WEBS), (NoRing, NO_RINGS), (NoMap, NO_MAPS), (NoHues, no_hues)]
        self.in_order(led_by_rank, (WEB, PAIR, RING, (0, 1, 0), (3, 1)), refusals)

    def test_several_amiss_at_once(self):
        self.refused(NoRing, led_hues, WEB, PAIR, None, (5, 6), None)
        self.refused(NoRing, led_hues, WEB, PAIR, (0, 0, 0), (5, 6), (0, 0))
        self.refused(NoMap, led_hues, WEB, PAIR, (0, 0, 0), RING, (0, 0))
        self.refused(NoMap, led_hues, WEB, PAIR, (0, 0, 0), RING, (0, 2))
        # Hues of the first web are none of the other one.
        self.refused(NoHues, led_hues, WEB, PAIR, (0, 1, 0), RING, (0, 2, 0))
        self.no_web(-1, led_hues, WEB, (2, ((1, 0),)), None, None, None)
        self.no_web(-1, led_hues, None, None, None, None, None)
        self.no_web(-1, led_hues, (3, ((1, 0),)), PAIR, None, None, None)
