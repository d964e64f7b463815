from ringhues.errors import Apart, NoHues, NoRing, NoWeb
from ringhues.hues import hues_hold
from ringhues.judges import always_full, judged
from ringhues.shortest import shortest, shortest_hues
from tests.helpers import (
    NO_RINGS, NO_WEBS, Checks, all_webs, drawn_webs, length, plain_first, plain_search, plain_shortest, rings_to,
    round_web, whole_web,
)
from tests.test_hues import NO_HUES, RING, WEB
from tests.test_rounds import FIVE, HUES_REFUSALS, PAIR, STAR, plain_full_rounds, some_hues


class JudgedTest(Checks):
    def test_by_a_plain_search(self):
        words = set()
        for web, ring, hues in some_hues():
            if not web[1]:
                self.refused(Apart, judged, web, ring, hues)
                continue
            answer = judged(web, ring, hues)
            words.add(answer[0])
            full = plain_full_rounds(web, ring, hues)
            if full:
                self.assertEqual(answer, ("round", full[0]), (web, ring, hues))
            else:
                least = plain_shortest(web)
                self.assertEqual(answer, ("shorter", least, plain_first(web, least)), (web, ring, hues))
                self.assertLess(length(least), length(ring))
        self.assertEqual(words, {"round", "shorter"})

    def test_ordinary(self):
        self.assertEqual(self.told(judged, FIVE, (5, 2), STAR), ("round", (0, 1, 2, 3, 4)))
        self.assertEqual(self.told(judged, FIVE, (8, 3), (0, 3, 6, 1, 4)), ("shorter", (5, 2), STAR))
        self.assertEqual(self.told(judged, WEB, (2, 1), (0, 1, 0)), ("round", (0, 1)))
        self.assertEqual(self.told(judged, WEB, RING, (0, 2, 4)), ("shorter", (2, 1), (0, 1, 0)))
        self.assertEqual(self.told(judged, PAIR, (24, 12), (23, 11)), ("round", (0, 1)))
        self.assertEqual(self.told(judged, PAIR, (24, 11), (23, 10)), ("shorter", (2, 1), (0, 1)))
        # On a longer ring there may be a full round, too.
        self.assertEqual(self.told(judged, round_web(6), (3, 1), (0, 1, 2, 0, 1, 2)), ("round", (0, 1, 2, 3, 4, 5)))

    def test_on_the_shortest_ring_and_on_longer_ones(self):
        for web in list(drawn_webs(6, 10)) + list(drawn_webs(8, 20)) + [whole_web(8), round_web(8), round_web(7)]:
            if not web[1]:
                continue
            least, hues = shortest(web), shortest_hues(web)
            self.assertEqual(self.told(judged, web, least, hues)[0], "round")
            spread = tuple(spot * 24 // least[0] for spot in hues)
            answer = judged(web, (24, 1), spread)
            self.assertTrue(answer[0] == "round" or answer == ("shorter", least, hues))
            if answer[0] == "shorter":
                self.assertIs(hues_hold(web, answer[1], answer[2]), True)

    def test_without_ties(self):
        self.refused(Apart, judged, (1, ()), (1, 1), (0,))
        self.refused(Apart, judged, (3, ()), (5, 2), (0, 1, 2))
        self.refused(NoHues, judged, (3, ()), (5, 2), (0, 1, 5))
        self.refused(NoRing, judged, (3, ()), (5, 6), (0, 1, 5))
        self.in_order(judged, ((3, ()), RING, (0, 2, 0)), HUES_REFUSALS[:2])

    def test_refusals(self):
        self.takes(judged, "web ring hues", WEB, RING, (0, 2, 4))
        self.in_order(judged, (WEB, RING, (0, 2, 4)), [(NoWeb, NO_WEBS), (NoRing, NO_RINGS), (NoHues, NO_HUES)])


class AlwaysFullTest(Checks):
    def all_full(self, web, ring, hues_rows):
        return hues_rows != [] and all(plain_full_rounds(web, ring, hues) for hues in hues_rows)

    def test_by_going_through_all_hues(self):
        for many, most in ((1, 6), (2, 6), (3, 5)):
            for web in all_webs(many):
                for ring in rings_to(most):
                    self.says(self.all_full(web, ring, plain_search(web, ring)), always_full, web, ring)

    def test_by_going_through_all_hues_but_turned_ones(self):
        rings = rings_to(5) + [(6, 2), (6, 3)]
        for web in list(all_webs(4)) + list(drawn_webs(5, 10)):
            for ring in rings if web[0] == 4 else rings[:10]:
                rows = [hues for hues in plain_search(web, ring) if hues[0] == 0]
                self.assertIs(always_full(web, ring), self.all_full(web, ring, rows), (web, ring))

    def test_rounds_by_going_through_all_hues(self):
        for ring in ((5, 2), (4, 2), (6, 2), (7, 3), (8, 3), (2, 1), (3, 1)):
            rows = [hues for hues in plain_search(FIVE, ring) if hues[0] == 0]
            self.says(self.all_full(FIVE, ring, rows), always_full, FIVE, ring)

    def test_just_where_it_is_as_long_as_the_shortest_one(self):
        for web in list(drawn_webs(7, 5)) + list(drawn_webs(8, 5)) + [whole_web(8), round_web(7), round_web(8)]:
            least = length(plain_shortest(web))
            for ring in rings_to(12) + [(24, d) for d in range(1, 25)]:
                self.assertIs(always_full(web, ring), web[1] != () and length(ring) == least, (web, ring))

    def test_ordinary(self):
        self.says(True, always_full, FIVE, (5, 2))
        self.says(True, always_full, FIVE, (20, 8))
        self.says(False, always_full, FIVE, (8, 3))
        self.says(False, always_full, FIVE, (7, 3))
        self.says(True, always_full, PAIR, (24, 12))
        self.says(True, always_full, whole_web(8), (24, 3))

    def test_without_ties(self):
        for many in (1, 3, 8):
            for ring in rings_to(6):
                self.says(False, always_full, (many, ()), ring)

    def test_refusals(self):
        self.takes(always_full, "web ring", FIVE, (5, 2))
        self.in_order(always_full, (FIVE, (5, 2)), [(NoWeb, NO_WEBS), (NoRing, NO_RINGS)])
        self.in_order(always_full, ((3, ()), (5, 2)), [(NoWeb, NO_WEBS), (NoRing, NO_RINGS)])
