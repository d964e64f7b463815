import itertools

from ringhues.arrows import all_rounds
from ringhues.crowds import greatest_crowd, greatest_lot, lots_of, ring_bound
from ringhues.errors import NoHues, NoWeb
from ringhues.plain import fewest_plain, first_plain
from ringhues.shortest import shortest
from tests.helpers import NO_WEBS, ODD, Checks, all_webs, drawn_webs, length, round_web, whole_web
from tests.test_arrows import plain_rounds
from tests.test_hues import WEB
from tests.test_plain import NO_PLAIN

# Places 0 to 3 all tied, and a round of five with two of them.
MIXED = (7, ((0, 1), (0, 2), (0, 3), (1, 2), (1, 3), (2, 3), (2, 4), (3, 6), (4, 5), (5, 6)))


def rising_rows(many):
    return [row for size in range(many + 1) for row in itertools.combinations(range(many), size)]


def plain_greatest(web, tied):
    """The first of the greatest, by going through all rising tuples."""
    rows = [row for row in rising_rows(web[0]) if all((p in web[1]) == tied for p in itertools.combinations(row, 2))]
    most = max(map(len, rows))
    return min(row for row in rows if len(row) == most)


def some_webs():
    for many in range(1, 5):
        yield from all_webs(many)
    for many in range(5, 9):
        yield from drawn_webs(many, 15)
        yield whole_web(many)
        yield round_web(many)
        yield (many, ())


class GreatestTest(Checks):
    def test_by_going_through_all(self):
        for web in some_webs():
            self.assertEqual(self.told(greatest_crowd, web), plain_greatest(web, True), web)
            self.assertEqual(self.told(greatest_lot, web), plain_greatest(web, False), web)

    def test_ordinary(self):
        for many in range(1, 9):
            self.assertEqual(greatest_crowd((many, ())), (0,))
            self.assertEqual(greatest_lot((many, ())), tuple(range(many)))
            self.assertEqual(greatest_crowd(whole_web(many)), tuple(range(many)))
            self.assertEqual(greatest_lot(whole_web(many)), (0,))
        self.assertEqual(self.told(greatest_crowd, MIXED), (0, 1, 2, 3))
        self.assertEqual(self.told(greatest_lot, MIXED), (0, 4, 6))
        self.assertEqual(self.told(greatest_crowd, (5, ((0, 1), (2, 3), (2, 4), (3, 4)))), (2, 3, 4))
        self.assertEqual(self.told(greatest_lot, round_web(8)), (0, 2, 4, 6))

    def test_refusals(self):
        for call in (greatest_crowd, greatest_lot):
            self.takes(call, "web", MIXED)
            self.in_order(call, (MIXED,), [(NoWeb, NO_WEBS)])


class LotsOfTest(Checks):
    def test_ordinary(self):
        self.assertEqual(self.told(lots_of, WEB, (0, 1, 0)), [(0, 2), (1,)])
        self.assertEqual(self.told(lots_of, WEB, (2, 1, 0)), [(2,), (1,), (0,)])
        self.assertEqual(self.told(lots_of, WEB, (10 ** 99, 3, 10 ** 99)), [(1,), (0, 2)])
        self.assertEqual(self.told(lots_of, (4, ()), (10 ** 99, 0, 10 ** 50, 10 ** 99)), [(1,), (2,), (0, 3)])
        self.assertEqual(self.told(lots_of, (8, ()), (5,) * 8), [tuple(range(8))])
        self.assertEqual(self.told(lots_of, (1, ()), (0,)), [(0,)])

    def test_small_webs(self):
        for web in list(all_webs(2)) + list(all_webs(3)):
            for row in itertools.product((0, 1, 4, 10 ** 30), repeat=web[0]):
                if any(row[i] == row[j] for i, j in web[1]):
                    self.refused(NoHues, lots_of, web, row)
                    continue
                lots = lots_of(web, row)
                self.assertEqual(sorted(place for lot in lots for place in lot), list(range(web[0])))
                self.assertEqual([row[lot[0]] for lot in lots], sorted(set(row)))
                for lot in lots:
                    self.assertIs(type(lot), tuple)
                    self.assertEqual(lot, tuple(sorted(lot)))
                    self.assertEqual(len({row[place] for place in lot}), 1)
                    self.assertFalse([pair for pair in itertools.combinations(lot, 2) if pair in web[1]])

    def test_as_many_as_unlike_numbers(self):
        for web in some_webs():
            self.assertEqual(len(lots_of(web, first_plain(web))), fewest_plain(web))

    def test_the_list_is_the_askers_own(self):
        lots = lots_of(WEB, (0, 1, 0))
        self.assertIs(type(lots), list)
        lots.clear()
        self.assertEqual(lots_of(WEB, (0, 1, 0)), [(0, 2), (1,)])

    def test_refusals(self):
        self.takes(lots_of, "web plain", WEB, (0, 1, 0))
        self.in_order(lots_of, (WEB, (0, 1, 0)), [(NoWeb, NO_WEBS), (NoHues, NO_PLAIN)])


class RingBoundTest(Checks):
    def has(self, bound, web, thing):
        answer = self.told(ring_bound, web, thing)
        self.assertEqual(answer, bound, (web, thing))
        if bound is not None:
            self.assertEqual(repr(answer), repr(bound))

    def test_crowds(self):
        for row in rising_rows(7):
            tied = row != () and all(pair in MIXED[1] for pair in itertools.combinations(row, 2))
            self.has((len(row), 1) if tied else None, MIXED, ("crowd", row))
        self.has((8, 1), whole_web(8), ("crowd", tuple(range(8))))
        self.has((1, 1), (1, ()), ("crowd", (0,)))
        self.has((1, 1), (8, ()), ("crowd", (7,)))

    def test_no_crowds(self):
        for row in (
            (), (1, 0), (0, 2, 1), (0, 0), (0, 1, 1), (0, 4), (7,), (-1,), [0, 1], "01", (True,), (False,), (0, True),
            (True, 2), (0, 1, None), ("0",), ((0,),), ([0],), {0: 1}, None, 0, (10 ** 99,), (0,) * 500, (0, 1, 7),
            (0, 1, 2, 3, 3), (False, 1), (0, 1, {}),
        ):
            self.has(None, MIXED, ("crowd", row))

    def test_odd_rounds(self):
        self.has((3, 1), MIXED, ("odd", (0, 1, 2)))
        self.has((5, 2), MIXED, ("odd", (2, 3, 6, 5, 4)))
        self.has((7, 3), MIXED, ("odd", (0, 1, 2, 4, 5, 6, 3)))
        self.has((5, 2), round_web(5), ("odd", (0, 1, 2, 3, 4)))
        self.has((7, 3), whole_web(8), ("odd", (0, 1, 2, 3, 4, 5, 6)))
        for row in plain_rounds(MIXED):
            self.has((len(row), len(row) // 2) if len(row) % 2 else None, MIXED, ("odd", row))

    def test_no_odd_rounds(self):
        for row in (
            (), (0,), (0, 1), (0, 1, 2, 3), (2, 3, 6, 5), (0, 2, 1), (1, 0, 2), (1, 2, 0), (2, 1, 0), (0, 1, 4), (0, 1, 7),
            (2, 4, 5, 6, 3), (3, 6, 5, 4, 2), [0, 1, 2], "012", (False, 1, 2), (0, True, 2), (0, 1, "2"), (0, 1, None),
            (0, 1, 2, 0, 1), (0, 1, 2, 0), (0, 0, 0), {0: 1}, None, 3, ((0, 1, 2),), (0, [1], 2), (0, 1, 10 ** 99),
        ):
            self.has(None, MIXED, ("odd", row))
        self.has(None, round_web(8), ("odd", tuple(range(8))))
        self.has(None, round_web(4), ("odd", (0, 1, 2, 3)))
        self.has(None, (3, ()), ("odd", (0, 1, 2)))

    def test_other_words_and_odd_things(self):
        for word in ("Crowd", "ODD", "", "crowd ", "even", "lot", "round", None, 0, True, (), ["crowd"], ("crowd",), {}):
            self.has(None, MIXED, (word, (0, 1, 2)))
        for thing in ODD + [
            ["crowd", (0, 1, 2)], ["odd", (0, 1, 2)], ("crowd",), ("odd",), ("crowd", (0, 1), (0, 1)), "crowd", "odd",
            ("odd", (0, 1, 2), 1), ("crowd", 0, 1, 2), ((0, 1, 2), "crowd"), {"crowd": (0, 1, 2)}, (("crowd", (0,)),),
        ]:
            self.has(None, MIXED, thing)
            if repr(thing) not in ("(0,)", "(0, 1)", "(1, 2)", "(0, 1, 2)"):
                self.has(None, MIXED, ("crowd", thing))
                self.has(None, MIXED, ("odd", thing))

    def test_the_shortest_ring_is_as_long_at_least(self):
        for web in some_webs():
            least = length(shortest(web))
            crowd = greatest_crowd(web)
            self.has((len(crowd), 1), web, ("crowd", crowd))
            self.assertLessEqual(len(crowd), least)
            for row in all_rounds(web)[:50]:
                bound = ring_bound(web, ("odd", row))
                self.assertEqual(bound is not None, len(row) % 2 == 1)
                if bound is not None:
                    self.assertLessEqual(length(bound), least)

    def test_refusals(self):
        self.takes(ring_bound, "web thing", MIXED, ("crowd", (0, 1)))
        self.in_order(ring_bound, (MIXED, ("odd", (0, 1, 2))), [(NoWeb, NO_WEBS)])
