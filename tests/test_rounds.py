import itertools

from ringhues.errors import Apart, NoHues, NoPaper, NoPlace, NoRing, NoWeb
from ringhues.hues import hues_hold
from ringhues.rounds import full_holds, full_rounds, laps_of, may_move, moved_on
from ringhues.shortest import shortest, shortest_hues
from tests.helpers import (
    NO_PLACES, NO_RINGS, NO_WEBS, ODD, Checks, all_webs, drawn_webs, plain_search, rings_to, round_web, whole_web,
)
from tests.test_hues import NO_HUES, RING, WEB

PAIR = (2, ((0, 1),))
FIVE = round_web(5)
STAR = (0, 2, 4, 1, 3)
HUES_REFUSALS = [(NoWeb, NO_WEBS), (NoRing, NO_RINGS), (NoHues, NO_HUES)]


def plainly_full(web, ring, hues, row):
    """The words of the document, over again."""
    ring_steps = [(row[at], row[(at + 1) % len(row)]) for at in range(len(row))]
    return len(row) >= 2 and len(set(row)) == len(row) and row[0] == min(row) and all(
        (min(i, j), max(i, j)) in web[1] and (hues[i] + ring[1] - hues[j]) % ring[0] == 0 for i, j in ring_steps
    )


def plain_full_rounds(web, ring, hues):
    rows = [row for many in range(2, web[0] + 1) for row in itertools.permutations(range(web[0]), many)]
    return sorted(row for row in rows if plainly_full(web, ring, hues, row))


def some_hues():
    """Webs, rings and hues on them, small enough for plain searches."""
    for many, most, step in ((1, 4, 1), (2, 6, 1), (3, 6, 2), (4, 4, 5)):
        for web in all_webs(many):
            for ring in rings_to(most):
                for hues in plain_search(web, ring)[::step]:
                    yield web, ring, hues
    for web in list(drawn_webs(5, 12)) + [FIVE, whole_web(5)]:
        for ring in ((2, 1), (4, 2), (5, 2), (3, 1), (5, 1), (6, 3)):
            for hues in plain_search(web, ring)[:60:7]:
                yield web, ring, hues


class FullRoundsTest(Checks):
    def test_by_a_plain_search(self):
        lengths = set()
        for web, ring, hues in some_hues():
            found = full_rounds(web, ring, hues)
            self.assertEqual(found, plain_full_rounds(web, ring, hues), (web, ring, hues))
            self.assertIs(type(found), list)
            self.assertTrue(all(type(row) is tuple and type(place) is int for row in found for place in row))
            lengths |= {len(row) for row in found}
        self.assertEqual(lengths, {2, 3, 4, 5})

    def test_ordinary(self):
        self.assertEqual(self.told(full_rounds, FIVE, (5, 2), STAR), [(0, 1, 2, 3, 4)])
        self.assertEqual(self.told(full_rounds, FIVE, (5, 2), STAR[::-1]), [(0, 4, 3, 2, 1)])
        self.assertEqual(self.told(full_rounds, PAIR, (24, 12), (5, 17)), [(0, 1)])
        self.assertEqual(self.told(full_rounds, PAIR, (23, 11), (5, 16)), [])
        self.assertEqual(self.told(full_rounds, WEB, (2, 1), (0, 1, 0)), [(0, 1), (1, 2)])
        self.assertEqual(self.told(full_rounds, round_web(4), (2, 1), (0, 1, 0, 1)), [
            (0, 1), (0, 1, 2, 3), (0, 3), (0, 3, 2, 1), (1, 2), (2, 3),
        ])
        self.assertEqual(self.told(full_rounds, (3, ()), (1, 1), (0, 0, 0)), [])
        self.assertEqual(self.told(full_rounds, (8, ()), (24, 24), (3,) * 8), [])

    def test_as_tuples_rise_on_great_webs(self):
        split = (8, tuple((i, j) for i in range(4) for j in range(4, 8)))
        found = self.told(full_rounds, split, (24, 12), (1,) * 4 + (13,) * 4)
        self.assertEqual(found, sorted(set(found)))
        # Four by four: 16 of two places, 36 pairs of pairs two ways, 16 of six left out four ways each, 72 of eight.
        self.assertEqual([len([row for row in found if len(row) == many]) for many in (2, 4, 6, 8)], [16, 72, 192, 144])
        self.assertEqual(self.told(full_rounds, whole_web(8), (8, 1), tuple(range(8))), [tuple(range(8))])

    def test_on_the_shortest_ring_there_is_one(self):
        for web in drawn_webs(8, 20):
            found = full_rounds(web, shortest(web), shortest_hues(web))
            self.assertEqual(found != [], web[1] != (), web)

    def test_the_list_is_the_askers_own(self):
        found = full_rounds(WEB, (2, 1), (0, 1, 0))
        found.reverse()
        found.pop()
        self.assertEqual(full_rounds(WEB, (2, 1), (0, 1, 0)), [(0, 1), (1, 2)])

    def test_refusals(self):
        self.takes(full_rounds, "web ring hues", FIVE, (5, 2), STAR)
        self.in_order(full_rounds, (WEB, RING, (0, 2, 0)), HUES_REFUSALS)


class FullHoldsTest(Checks):
    def wrong_rounds(self):
        """What is no full round of FIVE at STAR: just (0, 1, 2, 3, 4) is."""
        yield from ODD
        yield from [row for row in itertools.permutations(range(5)) if row != (0, 1, 2, 3, 4)]
        yield from [(0, 1, 2, 3), (1, 2, 3, 4), (0, 1, 2, 4), (0, 1, 2, 3, 4, 0), (0, 1, 2, 3, 4, 4), (0, 1), (0,), (4,)]
        yield from [(0, 1, 2, 3, 4) * 2, (0, 1, 1, 2, 3, 4), (0, 0, 1, 2, 3, 4)]
        yield from [[0, 1, 2, 3, 4], {0: 1}, "01234", (False, 1, 2, 3, 4), (0, True, 2, 3, 4), ("0", 1, 2, 3, 4)]
        yield from [(0, 1, 2, 3, 5), (0, 1, 2, 3, -1), (-5, 1, 2, 3, 4), (0, 1, 2, 3, None), (0, 1, [2], 3, 4)]
        yield from [(0, 1, (2,), 3, 4), ((0, 1, 2, 3, 4),), (0, 1, 2, 3, 10 ** 99), (0, 1, {}, 3, 4)]

    def test_what_is_none(self):
        self.says(True, full_holds, FIVE, (5, 2), STAR, (0, 1, 2, 3, 4))
        for thing in self.wrong_rounds():
            self.says(False, full_holds, FIVE, (5, 2), STAR, thing)

    def test_two_places(self):
        self.says(True, full_holds, PAIR, (4, 2), (1, 3), (0, 1))
        for thing in ((1, 0), [0, 1], (0, True), (False, 1), (0,), (0, 1, 0), (0, 1, 0, 1)):
            self.says(False, full_holds, PAIR, (4, 2), (1, 3), thing)
        self.says(False, full_holds, PAIR, (5, 2), (1, 3), (0, 1))
        self.says(False, full_holds, PAIR, (4, 1), (1, 3), (0, 1))

    def test_no_ties_or_no_steps_between(self):
        self.says(False, full_holds, (2, ()), (4, 2), (1, 3), (0, 1))
        self.says(False, full_holds, (1, ()), (1, 1), (0,), (0,))
        self.says(False, full_holds, (2, ()), (1, 1), (0, 0), (0, 1))

    def test_all_rows_by_a_plain_look(self):
        for web, ring, hues in itertools.islice(some_hues(), 0, None, 7):
            rows = [row for many in range(4) for row in itertools.product(range(-1, web[0] + 1), repeat=many)]
            for row in rows:
                sound = all(0 <= place < web[0] for place in row) and plainly_full(web, ring, hues, row)
                self.assertIs(full_holds(web, ring, hues, row), sound, (web, ring, hues, row))

    def test_each_that_is_told_holds(self):
        for web, ring, hues in some_hues():
            for row in full_rounds(web, ring, hues):
                self.assertIs(full_holds(web, ring, hues, row), True)
                self.assertIs(full_holds(web, ring, hues, row[1:] + row[:1]), False)

    def test_refusals(self):
        self.takes(full_holds, "web ring hues thing", FIVE, (5, 2), STAR, (0, 1, 2, 3, 4))
        self.in_order(full_holds, (WEB, (2, 1), (0, 1, 0), (0, 1)), [(NoWeb, NO_WEBS), (NoRing, NO_RINGS)])
        self.in_order(full_holds, (WEB, RING, (0, 2, 0), (0, 1)), HUES_REFUSALS)

    def test_laps(self):
        self.assertEqual(self.told(laps_of, FIVE, (5, 2), STAR, (0, 1, 2, 3, 4)), 2)
        self.assertEqual(self.told(laps_of, whole_web(3), (24, 8), (0, 8, 16), (0, 1, 2)), 1)
        self.assertEqual(self.told(laps_of, PAIR, (24, 12), (5, 17), (0, 1)), 1)
        self.assertEqual(self.told(laps_of, round_web(7), (14, 6), shortest_of_seven(), tuple(range(7))), 3)
        self.assertEqual(self.told(laps_of, round_web(8), (24, 12), (0, 12) * 4, tuple(range(8))), 4)

    def test_laps_by_walking(self):
        for web, ring, hues in some_hues():
            for row in full_rounds(web, ring, hues):
                walked = sum((hues[j] - hues[i]) % ring[0] for i, j in zip(row, row[1:] + row[:1]))
                self.assertEqual(laps_of(web, ring, hues, row) * ring[0], walked)
                self.assertIs(type(laps_of(web, ring, hues, row)), int)

    def test_laps_of_no_full_round(self):
        for thing in self.wrong_rounds():
            self.refused(NoPaper, laps_of, FIVE, (5, 2), STAR, thing)
        self.refused(NoPaper, laps_of, PAIR, (5, 2), (1, 3), (0, 1))

    def test_laps_refusals(self):
        self.takes(laps_of, "web ring hues full", FIVE, (5, 2), STAR, (0, 1, 2, 3, 4))
        self.in_order(laps_of, (WEB, RING, (0, 2, 0), (0, 1)), HUES_REFUSALS + [(NoPaper, ODD)])


def shortest_of_seven():
    return tuple(place * 6 % 14 for place in range(7))


class MoveTest(Checks):
    def test_each_place_by_hues_hold(self):
        for web, ring, hues in some_hues():
            free = may_move(web, ring, hues)
            self.assertIs(type(free), tuple)
            self.assertEqual(free, tuple(sorted(free)))
            for place in range(web[0]):
                moved = hues[:place] + ((hues[place] + 1) % ring[0],) + hues[place + 1:]
                self.assertIs(place in free, hues_hold(web, ring, moved), (web, ring, hues, place))
                if place in free:
                    self.assertEqual(moved_on(web, ring, hues, place), moved)
                else:
                    self.refused(Apart, moved_on, web, ring, hues, place)

    def test_ordinary(self):
        self.assertEqual(self.told(may_move, WEB, RING, (0, 2, 0)), (1,))
        self.assertEqual(self.told(may_move, WEB, RING, (1, 4, 1)), (0, 2))
        self.assertEqual(self.told(may_move, FIVE, (5, 2), STAR), ())
        self.assertEqual(self.told(may_move, FIVE, (24, 2), (0, 4, 8, 12, 16)), (0, 1, 2, 3, 4))
        self.assertEqual(self.told(moved_on, WEB, RING, (1, 4, 1), 2), (1, 4, 2))
        self.assertEqual(self.told(moved_on, WEB, RING, (0, 2, 0), 1), (0, 3, 0))

    def test_from_the_last_spot_on_to_0(self):
        self.assertEqual(self.told(moved_on, WEB, RING, (2, 4, 2), 1), (2, 0, 2))
        self.assertEqual(self.told(moved_on, (1, ()), (1, 1), (0,), 0), (0,))
        self.assertEqual(self.told(moved_on, (2, ()), (24, 24), (23, 23), 1), (23, 0))
        self.assertEqual(self.told(may_move, WEB, RING, (4, 1, 3)), (2,))
        self.refused(Apart, moved_on, WEB, RING, (4, 1, 3), 0)

    def test_drawn_webs(self):
        for web in drawn_webs(8, 12):
            hues = tuple(range(0, 24, 3))
            self.assertEqual(may_move(web, (24, 3), hues), tuple(
                place for place in range(8) if (min(place, (place + 1) % 8), max(place, (place + 1) % 8)) not in web[1]
            ))

    def test_refusals(self):
        self.takes(may_move, "web ring hues", WEB, RING, (0, 2, 0))
        self.takes(moved_on, "web ring hues place", WEB, RING, (0, 2, 0), 1)
        self.in_order(may_move, (WEB, RING, (0, 2, 0)), HUES_REFUSALS)
        self.in_order(moved_on, (WEB, RING, (0, 2, 0), 1), HUES_REFUSALS + [(NoPlace, NO_PLACES)])
        self.in_order(moved_on, (WEB, RING, (0, 2, 0), 0), HUES_REFUSALS)
        # Where no place may be moved, what is no place goes ahead of that.
        self.in_order(moved_on, (whole_web(3), (3, 1), (0, 1, 2), 1), [(NoWeb, NO_WEBS), (NoRing, NO_RINGS)])
        for thing in NO_PLACES:
            self.refused(NoPlace, moved_on, whole_web(3), (3, 1), (0, 1, 2), thing)
        self.refused(Apart, moved_on, whole_web(3), (3, 1), (0, 1, 2), 1)
