import fractions
import itertools

from ringhues.arrows import are_arrows, turned_arrows
from ringhues.bounds import arrows_by, best_arrows, bound_of, hues_by
from ringhues.errors import Apart, NoArrows, NoHues, NoRing, NoWeb, TooGreat
from ringhues.hues import hues_hold
from ringhues.shortest import shortest
from tests.helpers import (
    NO_RINGS, NO_WEBS, Checks, all_webs, drawn_webs, length, plain_search, rings_to, round_web, whole_web,
)
from tests.test_arrows import ARROWS, NO_ARROWS, WEB, plain_along, plain_rounds
from tests.test_hues import NO_HUES
from tests.test_shortest import plainly_plain


def all_arrows(web):
    return itertools.product((-1, 1), repeat=len(web[1]))


def plain_bound(web, arrows, rounds):
    """The words of the document, over again; None where there is no bound."""
    bound = fractions.Fraction(2 if web[1] else 1)
    for row in rounds:
        fewer = min(plain_along(web, arrows, row))
        if fewer == 0:
            return None
        bound = max(bound, fractions.Fraction(len(row), fewer))
    return (bound.numerator, bound.denominator)


def step_of(web, arrows, bound, here, there):
    """What a step of a way comes to."""
    arrow = arrows[web[1].index((min(here, there), max(here, there)))]
    return bound[1] if (arrow == 1) == (here < there) else bound[1] - bound[0]


def plain_numbers(web, arrows, bound):
    """The greatest number of each place, by going through all ways without a place twice."""
    best = [0] * web[0]
    for many in range(2, web[0] + 1):
        for row in itertools.permutations(range(web[0]), many):
            steps = list(zip(row, row[1:]))
            if all((min(step), max(step)) in web[1] for step in steps):
                comes_to = sum(step_of(web, arrows, bound, *step) for step in steps)
                best[row[-1]] = max(best[row[-1]], comes_to)
    return best


def walked_numbers(web, arrows, bound, steps):
    """The same of all ways of up to so many steps, with places twice, too."""
    here = [0] * web[0]
    best = list(here)
    both = list(web[1]) + [tie[::-1] for tie in web[1]]
    for _ in range(steps):
        there = [-(10 ** 9)] * web[0]
        for one, other in both:
            there[other] = max(there[other], here[one] + step_of(web, arrows, bound, one, other))
        here = there
        best = [max(pair) for pair in zip(best, here)]
    return best


def webs_and_arrows():
    for web in itertools.chain(all_webs(1), all_webs(2), all_webs(3), all_webs(4)):
        for arrows in all_arrows(web):
            yield web, arrows
    for web in [round_web(5), round_web(6)] + list(drawn_webs(5, 10)):
        for arrows in itertools.islice(all_arrows(web), 0, None, 5):
            yield web, arrows


class BoundTest(Checks):
    def test_by_a_plain_look(self):
        bounds = set()
        for web, arrows in webs_and_arrows():
            bound = self.told(bound_of, web, arrows)
            self.assertEqual(bound, plain_bound(web, arrows, plain_rounds(web)), (web, arrows))
            self.assertEqual(bound_of(web, turned_arrows(web, arrows)), bound)
            bounds.add(bound)
            if bound is not None:
                self.assertEqual([type(number) for number in bound], [int, int])
                self.assertTrue(plainly_plain(bound))
        self.assertTrue({None, (1, 1), (2, 1), (3, 1), (4, 1), (5, 2), (5, 1), (6, 1)} <= bounds, bounds)

    def test_ordinary(self):
        self.assertEqual(self.told(bound_of, (8, ()), ()), (1, 1))
        self.assertEqual(self.told(bound_of, (2, ((0, 1),)), (-1,)), (2, 1))
        self.assertEqual(self.told(bound_of, (8, tuple((i, 7) for i in range(7))), (1, -1, 1, 1, 1, 1, -1)), (2, 1))
        self.assertIsNone(self.told(bound_of, WEB, ARROWS))
        self.assertEqual(self.told(bound_of, WEB, (1, 1, 1, 1)), (3, 1))
        self.assertEqual(self.told(bound_of, whole_web(8), (1,) * 28), (8, 1))
        self.assertEqual(self.told(bound_of, whole_web(8), (1,) * 27 + (-1,)), (8, 1))
        self.assertIsNone(self.told(bound_of, whole_web(8), (1,) * 6 + (-1,) + (1,) * 21))

    def test_lowest_terms(self):
        # Six places, of which two, three, one against: 6 / 2, 6 / 3, 6 / 1; eight with three against: 8 / 3.
        self.assertEqual(self.told(bound_of, round_web(6), arrows_along(6, (4, 5))), (3, 1))
        self.assertEqual(self.told(bound_of, round_web(6), arrows_along(6, (0, 3, 5))), (2, 1))
        self.assertEqual(self.told(bound_of, round_web(6), arrows_along(6, (2,))), (6, 1))
        self.assertEqual(self.told(bound_of, round_web(8), arrows_along(8, (0, 1, 6))), (8, 3))
        self.assertEqual(self.told(bound_of, round_web(8), arrows_along(8, (0, 1, 2, 3, 6, 7))), (4, 1))
        self.assertIsNone(self.told(bound_of, round_web(8), arrows_along(8, ())))

    def test_a_round_all_one_way_beside_others(self):
        two = (6, ((0, 1), (0, 2), (1, 2), (3, 4), (3, 5), (4, 5)))
        self.assertEqual(self.told(bound_of, two, (1, 1, 1, 1, 1, 1)), (3, 1))
        self.assertIsNone(self.told(bound_of, two, (1, 1, 1, 1, -1, 1)))
        self.assertIsNone(self.told(bound_of, two, (1, -1, 1, 1, 1, 1)))

    def test_refusals(self):
        self.takes(bound_of, "web arrows", WEB, (1, 1, 1, 1))
        self.in_order(bound_of, (WEB, (1, 1, 1, 1)), [(NoWeb, NO_WEBS), (NoArrows, NO_ARROWS)])


def arrows_along(many, against):
    """Arrows of a round web that go with the round but at the ties from these places to the next ones."""
    onward = {}
    for place in range(many):
        step = (place, (place + 1) % many)
        onward[tuple(sorted(step))] = (1 if step[0] < step[1] else -1) * (-1 if place in against else 1)
    return tuple(onward[tie] for tie in round_web(many)[1])


class HuesByTest(Checks):
    def test_by_a_plain_look_at_all_ways(self):
        for web, arrows in webs_and_arrows():
            bound = plain_bound(web, arrows, plain_rounds(web))
            if bound is None:
                self.refused(Apart, hues_by, web, arrows)
                continue
            numbers = plain_numbers(web, arrows, bound)
            self.assertEqual(walked_numbers(web, arrows, bound, 2 * web[0] + 1), numbers)
            hues = self.told(hues_by, web, arrows)
            self.assertEqual(hues, tuple(number % bound[0] for number in numbers), (web, arrows))
            self.assertIs(hues_hold(web, bound, hues), True)

    def test_ordinary(self):
        self.assertEqual(self.told(hues_by, (3, ()), ()), (0, 0, 0))
        self.assertEqual(self.told(hues_by, (2, ((0, 1),)), (1,)), (0, 1))
        self.assertEqual(self.told(hues_by, (2, ((0, 1),)), (-1,)), (1, 0))
        self.assertEqual(self.told(hues_by, WEB, (1, 1, 1, -1)), (0, 1, 2, 0))
        self.assertEqual(self.told(hues_by, whole_web(8), (1,) * 28), tuple(range(8)))
        self.assertEqual(self.told(hues_by, whole_web(8), (-1,) * 28), tuple(range(8))[::-1])

    def test_numbers_go_beyond_the_ring(self):
        line = (8, tuple((i, i + 1) for i in range(7)))
        self.assertEqual(self.told(hues_by, line, (1,) * 7), (0, 1) * 4)
        self.assertEqual(self.told(hues_by, line, (-1,) * 7), (1, 0) * 4)

    def test_great_webs(self):
        for web in drawn_webs(8, 12):
            for arrows in ((1,) * len(web[1]), tuple((1, 1, -1)[at % 3] for at in range(len(web[1])))):
                bound = bound_of(web, arrows)
                if bound is None:
                    self.refused(Apart, hues_by, web, arrows)
                else:
                    hues = self.told(hues_by, web, arrows)
                    self.assertIs(hues_hold(web, bound, hues), True)
                    numbers = walked_numbers(web, arrows, bound, 20)
                    self.assertEqual(hues, tuple(number % bound[0] for number in numbers))

    def test_refusals(self):
        self.takes(hues_by, "web arrows", WEB, (1, 1, 1, 1))
        self.in_order(hues_by, (WEB, (1, 1, 1, 1)), [(NoWeb, NO_WEBS), (NoArrows, NO_ARROWS)])
        # Apart goes behind both.
        self.refused(Apart, hues_by, WEB, ARROWS)
        self.in_order(hues_by, (WEB, ARROWS), [(NoWeb, NO_WEBS)])


class ArrowsByTest(Checks):
    def test_on_several_rings(self):
        for web in list(all_webs(2)) + list(all_webs(3)) + [round_web(4), whole_web(4)]:
            for ring in rings_to(5):
                for hues in plain_search(web, ring):
                    arrows = arrows_by(web, ring, hues)
                    self.assertIs(are_arrows(web, arrows), True)
                    for (one, other), arrow in zip(web[1], arrows):
                        low, high = (one, other) if arrow == 1 else (other, one)
                        self.assertLess(hues[low], hues[high])

    def test_ordinary(self):
        self.assertEqual(self.told(arrows_by, round_web(5), (5, 2), (0, 2, 4, 1, 3)), (1, 1, 1, -1, 1))
        self.assertEqual(self.told(arrows_by, (3, ((0, 1), (1, 2))), (5, 2), (4, 2, 4)), (-1, 1))
        self.assertEqual(self.told(arrows_by, whole_web(8), (24, 3), tuple(range(21, -1, -3))), (-1,) * 28)
        self.assertEqual(self.told(arrows_by, (3, ()), (1, 1), (0, 0, 0)), ())

    def test_their_bound_is_no_longer_than_the_ring(self):
        for web in list(drawn_webs(5, 8)) + [round_web(5)]:
            for ring in ((5, 2), (3, 1), (4, 1), (5, 1)):
                for hues in plain_search(web, ring)[:30:3]:
                    bound = bound_of(web, arrows_by(web, ring, hues))
                    self.assertIsNotNone(bound)
                    self.assertLessEqual(length(bound), length(ring))

    def test_refusals(self):
        web, ring = (3, ((0, 1), (1, 2))), (5, 2)
        self.takes(arrows_by, "web ring hues", web, ring, (0, 2, 0))
        self.in_order(arrows_by, (web, ring, (0, 2, 0)), [(NoWeb, NO_WEBS), (NoRing, NO_RINGS), (NoHues, NO_HUES)])


class BestArrowsTest(Checks):
    def plain_best(self, web):
        """The first arrows with the least bound, by going through all."""
        rounds = plain_rounds(web)
        bounds = [(plain_bound(web, arrows, rounds), arrows) for arrows in all_arrows(web)]
        least = min(length(bound) for bound, _ in bounds if bound is not None)
        return next((arrows, bound) for bound, arrows in bounds if bound is not None and length(bound) == least)

    def holds(self, web):
        arrows, bound = self.plain_best(web)
        self.assertEqual(best_arrows(web), arrows, web)
        self.assertEqual(bound, shortest(web))
        self.assertEqual(bound_of(web, arrows), bound)

    def test_by_going_through_all_arrows(self):
        for many in (1, 2, 3, 4):
            for web in all_webs(many):
                self.holds(web)

    def test_greater_webs(self):
        webs = [web for web in drawn_webs(6, 20) if len(web[1]) <= 8][:6] + [round_web(5), round_web(7), whole_web(5)]
        for web in webs:
            self.holds(web)

    def test_ordinary(self):
        self.assertEqual(self.told(best_arrows, (8, ())), ())
        self.assertEqual(self.told(best_arrows, (2, ((0, 1),))), (-1,))
        self.assertEqual(self.told(best_arrows, whole_web(3)), (-1, -1, -1))
        self.assertEqual(self.told(best_arrows, whole_web(5)), (-1,) * 10)
        self.assertEqual(self.told(best_arrows, round_web(4)), (-1, -1, -1, 1))

    def test_ten_ties(self):
        for web in (
            whole_web(5), (8, whole_web(8)[1][:10]), (8, tuple(sorted(round_web(8)[1] + ((0, 4), (1, 5))))),
            (8, tuple(sorted(round_web(7)[1] + ((0, 3), (1, 5), (6, 7))))),
        ):
            self.assertEqual(len(web[1]), 10)
            arrows = self.told(best_arrows, web)
            self.assertEqual(bound_of(web, arrows), shortest(web))
            self.assertIs(hues_hold(web, shortest(web), hues_by(web, arrows)), True)

    def test_too_great(self):
        ties = whole_web(8)[1]
        for many in range(11, 29):
            for web in ((8, ties[:many]), (8, ties[28 - many:])):
                wrong = self.refused(TooGreat, best_arrows, web)
                self.assertEqual((wrong.many, wrong.most), (many, 10))

    def test_refusals(self):
        self.takes(best_arrows, "web", WEB)
        self.in_order(best_arrows, (WEB,), [(NoWeb, NO_WEBS + [(7, whole_web(8)[1]), (8, whole_web(8)[1][::-1])])])
