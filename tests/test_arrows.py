import itertools

from ringhues.arrows import all_rounds, along, are_arrows, turned_arrows
from ringhues.errors import NoArrows, NoPaper, NoWeb
from tests.helpers import NO_WEBS, ODD, Checks, all_webs, drawn_webs, round_web, whole_web

WEB = (4, ((0, 1), (0, 2), (1, 2), (2, 3)))
ARROWS = (1, -1, 1, -1)
NO_ARROWS = ODD + [
    (1, -1, 1), (1, -1, 1, -1, 1), [1, -1, 1, -1], (1, -1, 1, 0), (0, 0, 0, 0), (1, -1, 1, 2), (1, -2, 1, -1),
    (True, -1, 1, -1), (1, -1, True, True), (1, -1, False, -1), ("1", -1, 1, -1), (1, None, 1, -1), (1, (-1,), 1, -1),
    (1, [-1], 1, -1), "1111", {0: 1, 1: 1, 2: 1, 3: 1}, ((1, -1, 1, -1),), (10 ** 99, 1, 1, 1), (1, {}, 1, 1),
]
NO_ROUNDS = [thing for thing in ODD if thing != (0, 1, 2)] + [
    (1, 2, 0), (2, 0, 1), (0, 2, 1), (1, 0, 2), (2, 1, 0), (0, 1), (0,), (0, 2), (0, 1, 2, 3), (0, 1, 3), (0, 2, 3),
    (1, 2, 3), (0, 1, 2, 0), (0, 1, 1, 2), (0, 0, 1, 2), (0, 1, 2, 0, 1, 2), (0, 1, 2, 2), [0, 1, 2], "012",
    (False, 1, 2), (0, True, 2), (0, 1, "2"), (0, 1, None), (0, 1, (2,)), (0, [1], 2), (0, 1, 4), (0, 1, -2), (-4, 1, 2),
    ((0, 1, 2),), {0: 1, 1: 2, 2: 0}, (0, 1, 10 ** 99), (0, {}, 2),
]


def tied(web, one, other):
    return (min(one, other), max(one, other)) in web[1]


def plainly_round(web, row):
    """The words of the document, over again."""
    if len(row) < 3 or len(set(row)) < len(row) or row[0] != min(row) or row[1] >= row[-1]:
        return False
    return all(tied(web, row[at - 1], row[at]) for at in range(len(row)))


def plain_rounds(web):
    rows = [row for many in range(3, web[0] + 1) for row in itertools.permutations(range(web[0]), many)]
    return sorted(row for row in rows if plainly_round(web, row))


def plain_along(web, arrows, row):
    onward = 0
    for at in range(len(row)):
        here, there = row[at], row[(at + 1) % len(row)]
        arrow = arrows[web[1].index((min(here, there), max(here, there)))]
        onward += (arrow == 1) == (here < there)
    return (onward, len(row) - onward)


class AreArrowsTest(Checks):
    def test_all_arrows_of_small_webs(self):
        for web in list(all_webs(1)) + list(all_webs(2)) + list(all_webs(3)):
            for row in itertools.product((-2, -1, 0, 1, 2, True, None), repeat=len(web[1])):
                sound = all(arrow in (1, -1) and arrow is not True for arrow in row)
                self.says(sound, are_arrows, web, row)

    def test_what_is_none(self):
        self.says(True, are_arrows, WEB, ARROWS)
        for thing in NO_ARROWS:
            self.says(False, are_arrows, WEB, thing)

    def test_without_ties(self):
        for web in ((1, ()), (8, ())):
            self.says(True, are_arrows, web, ())
            for thing in [thing for thing in ODD if repr(thing) != "()"] + [(1,), (-1,), []]:
                self.says(False, are_arrows, web, thing)

    def test_great_webs(self):
        self.says(True, are_arrows, whole_web(8), (1, -1) * 14)
        self.says(False, are_arrows, whole_web(8), (1, -1) * 13 + (1,))
        self.says(False, are_arrows, whole_web(8), (1, -1) * 13 + (1, 0))

    def test_turned(self):
        self.assertEqual(self.told(turned_arrows, WEB, ARROWS), (-1, 1, -1, 1))
        self.assertEqual(self.told(turned_arrows, (8, ()), ()), ())
        for web in all_webs(3):
            for row in itertools.product((-1, 1), repeat=len(web[1])):
                turned = turned_arrows(web, row)
                self.assertIs(are_arrows(web, turned), True)
                self.assertEqual([one + other for one, other in zip(row, turned)], [0] * len(row))
                self.assertEqual(turned_arrows(web, turned), row)

    def test_refusals(self):
        self.takes(are_arrows, "web thing", WEB, ARROWS)
        self.takes(turned_arrows, "web arrows", WEB, ARROWS)
        self.in_order(are_arrows, (WEB, ARROWS), [(NoWeb, NO_WEBS)])
        self.in_order(turned_arrows, (WEB, ARROWS), [(NoWeb, NO_WEBS), (NoArrows, NO_ARROWS)])


class AllRoundsTest(Checks):
    def test_small_webs_by_a_plain_search(self):
        for many in (1, 2, 3, 4):
            for web in all_webs(many):
                self.assertEqual(self.told(all_rounds, web), plain_rounds(web), web)
        for web in list(drawn_webs(5, 20)) + list(drawn_webs(6, 20)) + [whole_web(5), whole_web(6)]:
            self.assertEqual(self.told(all_rounds, web), plain_rounds(web), web)

    def test_ordinary(self):
        self.assertEqual(self.told(all_rounds, WEB), [(0, 1, 2)])
        self.assertEqual(self.told(all_rounds, whole_web(4)), [
            (0, 1, 2), (0, 1, 2, 3), (0, 1, 3), (0, 1, 3, 2), (0, 2, 1, 3), (0, 2, 3), (1, 2, 3),
        ])
        for many in range(3, 9):
            self.assertEqual(self.told(all_rounds, round_web(many)), [tuple(range(many))])

    def test_none(self):
        line = (8, tuple((i, i + 1) for i in range(7)))
        star = (8, tuple((i, 7) for i in range(7)))
        for web in ((1, ()), (8, ()), (2, ((0, 1),)), line, star):
            self.assertEqual(self.told(all_rounds, web), [])

    def test_all_tied(self):
        found = self.told(all_rounds, whole_web(8))
        self.assertEqual(found, sorted(set(found)))
        self.assertTrue(all(plainly_round(whole_web(8), row) for row in found))
        self.assertEqual([len([row for row in found if len(row) == many]) for many in range(3, 9)], [
            56, 210, 672, 1680, 2880, 2520,
        ])

    def test_the_list_is_the_askers_own(self):
        found = all_rounds(whole_web(4))
        self.assertIs(type(found), list)
        self.assertTrue(all(type(row) is tuple for row in found))
        kept = list(found)
        found.clear()
        self.assertEqual(all_rounds(whole_web(4)), kept)

    def test_refusals(self):
        self.takes(all_rounds, "web", WEB)
        self.in_order(all_rounds, (WEB,), [(NoWeb, NO_WEBS)])


class AlongTest(Checks):
    def test_small_webs_by_a_plain_look(self):
        for web in list(all_webs(3)) + list(all_webs(4)) + [round_web(5), round_web(6)]:
            for arrows in itertools.product((-1, 1), repeat=len(web[1])):
                for row in all_rounds(web):
                    both = along(web, arrows, row)
                    self.assertEqual(both, plain_along(web, arrows, row), (web, arrows, row))
                    self.assertEqual(sum(both), len(row))
                    self.assertEqual(along(web, turned_arrows(web, arrows), row), both[::-1])

    def test_ordinary(self):
        self.assertEqual(self.told(along, WEB, ARROWS, (0, 1, 2)), (3, 0))
        self.assertEqual(self.told(along, WEB, (-1, 1, -1, -1), (0, 1, 2)), (0, 3))
        self.assertEqual(self.told(along, WEB, (1, 1, 1, 1), (0, 1, 2)), (2, 1))
        self.assertEqual(self.told(along, round_web(4), (1, -1, 1, 1), (0, 1, 2, 3)), (4, 0))
        self.assertEqual(self.told(along, round_web(4), (1, 1, -1, -1), (0, 1, 2, 3)), (1, 3))
        self.assertEqual(self.told(along, whole_web(8), (1,) * 28, (0, 1, 7)), (2, 1))
        self.assertEqual(self.told(along, whole_web(8), (1,) * 28, (0, 2, 1, 4, 3, 6, 5, 7)), (4, 4))

    def test_great_webs(self):
        web = whole_web(7)
        arrows = tuple((-1, 1, 1)[at % 3] for at in range(21))
        for row in all_rounds(web)[::17]:
            self.assertEqual(self.told(along, web, arrows, row), plain_along(web, arrows, row))

    def test_what_is_no_round(self):
        for thing in NO_ROUNDS:
            self.refused(NoPaper, along, WEB, ARROWS, thing)
        for row in itertools.permutations(range(5)):
            if row != (0, 1, 2, 3, 4):
                self.refused(NoPaper, along, round_web(5), (1,) * 5, row)
        self.refused(NoPaper, along, (2, ((0, 1),)), (1,), (0, 1))
        self.refused(NoPaper, along, (3, ()), (), (0, 1, 2))

    def test_refusals(self):
        self.takes(along, "web arrows places", WEB, ARROWS, (0, 1, 2))
        self.in_order(along, (WEB, ARROWS, (0, 1, 2)), [(NoWeb, NO_WEBS), (NoArrows, NO_ARROWS), (NoPaper, NO_ROUNDS)])
