import itertools

from ringhues.changes import all_tied, put_beside, put_together, topped, twinned, untied, without
from ringhues.errors import Apart, NoPlace, NoWeb, TooGreat
from ringhues.plain import fewest_plain
from ringhues.shortest import shortest
from ringhues.webs import is_web
from tests.helpers import NO_PLACES, NO_WEBS, Checks, all_webs, drawn_webs, length, round_web, whole_web

WEB = (3, ((0, 1), (1, 2)))
PAIR = (2, ((0, 1),))
ONE = (1, ())


def numbered(labels, links):
    """The web of places told by labels, in their order, and of links between labels."""
    ties = sorted(tuple(sorted(labels.index(label) for label in link)) for link in links)
    return (len(labels), tuple(ties))


def labelled(name, web):
    """The labels of a web's places, and its links."""
    return [(name, place) for place in range(web[0])], [((name, i), (name, j)) for i, j in web[1]]


def small_webs():
    return [web for many in (1, 2, 3) for web in all_webs(many)] + list(drawn_webs(4, 6)) + list(drawn_webs(5, 6))


class Changed(Checks):
    def is_now(self, made, call, *things):
        """The web that a change tells: the one that is due, and a web in all its parts."""
        web = call(*things)
        self.assertEqual(repr(web), repr(made), things)
        self.assertIs(is_web(web), True)

    def too_great(self, many, call, *things):
        wrong = self.refused(TooGreat, call, *things)
        self.assertEqual((wrong.many, wrong.most), (many, 8), things)


class WithoutTest(Changed):
    def test_each_place(self):
        for web in small_webs() + list(drawn_webs(8, 6)) + [whole_web(8), round_web(8), (8, ())]:
            if web[0] > 1:
                labels, links = labelled("a", web)
                for place in range(web[0]):
                    lost = ("a", place)
                    kept = [label for label in labels if label != lost]
                    self.is_now(numbered(kept, [link for link in links if lost not in link]), without, web, place)

    def test_ordinary(self):
        web = (5, ((0, 1), (0, 4), (1, 3), (2, 3), (3, 4)))
        self.assertEqual(self.told(without, web, 0), (4, ((0, 2), (1, 2), (2, 3))))
        self.assertEqual(self.told(without, web, 2), (4, ((0, 1), (0, 3), (1, 2), (2, 3))))
        self.assertEqual(self.told(without, web, 3), (4, ((0, 1), (0, 3))))
        self.assertEqual(self.told(without, web, 4), (4, ((0, 1), (1, 3), (2, 3))))
        self.assertEqual(self.told(without, PAIR, 1), ONE)
        self.assertEqual(self.told(without, PAIR, 0), ONE)

    def test_the_only_place(self):
        self.refused(NoPlace, without, ONE, 0)
        for thing in NO_PLACES + [1, 2]:
            self.refused(NoPlace, without, ONE, thing)

    def test_refusals(self):
        self.takes(without, "web place", WEB, 1)
        self.in_order(without, (WEB, 1), [(NoWeb, NO_WEBS), (NoPlace, NO_PLACES)])


class UntiedTest(Changed):
    def test_each_two_places(self):
        for web in small_webs() + list(drawn_webs(8, 6)) + [whole_web(8)]:
            for one, other in itertools.product(range(web[0]), repeat=2):
                tie = (min(one, other), max(one, other))
                if tie in web[1]:
                    kept = list(web[1])
                    kept.remove(tie)
                    self.is_now((web[0], tuple(kept)), untied, web, one, other)
                else:
                    self.refused(Apart, untied, web, one, other)

    def test_ordinary(self):
        self.assertEqual(self.told(untied, WEB, 0, 1), (3, ((1, 2),)))
        self.assertEqual(self.told(untied, WEB, 2, 1), (3, ((0, 1),)))
        self.assertEqual(self.told(untied, PAIR, 1, 0), (2, ()))
        self.refused(Apart, untied, WEB, 0, 2)
        self.refused(Apart, untied, WEB, 1, 1)
        self.refused(Apart, untied, ONE, 0, 0)

    def test_refusals(self):
        self.takes(untied, "web one other", WEB, 2, 1)
        for one, other in ((0, 1), (2, 1), (0, 2), (1, 1)):
            self.in_order(untied, (WEB, one, other), [(NoWeb, NO_WEBS), (NoPlace, NO_PLACES), (NoPlace, NO_PLACES)])
        for thing in NO_PLACES:
            self.refused(NoPlace, untied, WEB, thing, thing)


class MorePlacesTest(Changed):
    def test_topped(self):
        for web in small_webs() + list(drawn_webs(7, 6)) + [whole_web(7), (7, ())]:
            labels, links = labelled("a", web)
            self.is_now(numbered(labels + ["top"], links + [(label, "top") for label in labels]), topped, web)
        self.assertEqual(self.told(topped, WEB), (4, ((0, 1), (0, 3), (1, 2), (1, 3), (2, 3))))
        self.assertEqual(self.told(topped, ONE), PAIR)
        self.assertEqual(self.told(topped, whole_web(7)), whole_web(8))

    def test_twinned(self):
        for web in small_webs() + list(drawn_webs(7, 6)) + [whole_web(7), (7, ())]:
            labels, links = labelled("a", web)
            for place in range(web[0]):
                ends = [one for link in links for one, other in (link, link[::-1]) if other == ("a", place)]
                made = numbered(labels + ["twin"], links + [(end, "twin") for end in ends])
                self.is_now(made, twinned, web, place)
        self.assertEqual(self.told(twinned, WEB, 1), (4, ((0, 1), (0, 3), (1, 2), (2, 3))))
        self.assertEqual(self.told(twinned, WEB, 2), (4, ((0, 1), (1, 2), (1, 3))))
        self.assertEqual(self.told(twinned, ONE, 0), (2, ()))

    def test_eight_places(self):
        for web in ((8, ()), whole_web(8), round_web(8)):
            self.too_great(9, topped, web)
            for place in range(8):
                self.too_great(9, twinned, web, place)
            for thing in [thing for thing in NO_PLACES if repr(thing) not in ("3", "7")] + [8, 9, -8]:
                self.refused(NoPlace, twinned, web, thing)

    def test_refusals(self):
        self.takes(topped, "web", WEB)
        self.in_order(topped, (WEB,), [(NoWeb, NO_WEBS)])
        self.takes(twinned, "web place", WEB, 1)
        self.in_order(twinned, (WEB, 1), [(NoWeb, NO_WEBS), (NoPlace, NO_PLACES)])


class TwoWebsTest(Changed):
    def test_beside_and_all_tied(self):
        for one, other in itertools.product(small_webs(), repeat=2):
            labels, links = labelled("a", one)
            there, others = labelled("b", other)
            if one[0] + other[0] > 8:
                self.too_great(one[0] + other[0], put_beside, one, other)
                self.too_great(one[0] + other[0], all_tied, one, other)
            else:
                self.is_now(numbered(labels + there, links + others), put_beside, one, other)
                between = list(itertools.product(labels, there))
                self.is_now(numbered(labels + there, links + others + between), all_tied, one, other)

    def test_together(self):
        for one, other in itertools.product(small_webs()[::2], repeat=2):
            for place, there in itertools.product(range(one[0]), range(other[0])):
                self.together(one, other, place, there)

    def together(self, one, other, place, there):
        labels, links = labelled("a", one)
        behind, others = labelled("b", other)
        same = {("b", there): ("a", place)}
        if one[0] + other[0] > 9:
            self.too_great(one[0] + other[0] - 1, put_together, one, other, place, there)
            return
        links = links + [tuple(same.get(label, label) for label in link) for link in others]
        made = numbered(labels + [label for label in behind if label not in same], links)
        self.is_now(made, put_together, one, other, place, there)

    def test_ordinary(self):
        self.assertEqual(self.told(put_beside, WEB, PAIR), (5, ((0, 1), (1, 2), (3, 4))))
        self.assertEqual(self.told(put_beside, PAIR, WEB), (5, ((0, 1), (2, 3), (3, 4))))
        self.assertEqual(self.told(all_tied, PAIR, PAIR), whole_web(4))
        self.assertEqual(self.told(all_tied, (2, ()), (2, ())), (4, ((0, 2), (0, 3), (1, 2), (1, 3))))
        self.assertEqual(self.told(put_together, PAIR, PAIR, 0, 1), (3, ((0, 1), (0, 2))))
        self.assertEqual(self.told(put_together, PAIR, PAIR, 1, 0), WEB)
        # The other's 0 and 2 get 3 and 4, its 1 is the one's 0.
        self.assertEqual(self.told(put_together, whole_web(3), WEB, 0, 1), (
            5, ((0, 1), (0, 2), (0, 3), (0, 4), (1, 2)),
        ))

    def test_one_place_and_one(self):
        self.assertEqual(self.told(put_beside, ONE, ONE), (2, ()))
        self.assertEqual(self.told(all_tied, ONE, ONE), PAIR)
        self.assertEqual(self.told(put_together, ONE, ONE, 0, 0), ONE)
        self.assertEqual(self.told(put_together, WEB, ONE, 2, 0), WEB)
        self.assertEqual(self.told(put_together, ONE, WEB, 0, 0), WEB)
        self.assertEqual(self.told(put_together, ONE, WEB, 0, 2), (3, ((0, 2), (1, 2))))

    def test_eight_places_just_so(self):
        self.assertEqual(self.told(put_beside, whole_web(7), ONE), (8, whole_web(7)[1]))
        self.assertEqual(self.told(all_tied, whole_web(3), whole_web(5)), whole_web(8))
        self.assertEqual(self.told(put_together, (8, ()), ONE, 7, 0), (8, ()))
        self.assertEqual(self.told(put_together, round_web(5), (4, ()), 4, 3), (8, round_web(5)[1]))
        self.assertEqual(self.told(put_together, ONE, whole_web(8), 0, 0), whole_web(8))

    def test_too_great(self):
        for one, other in itertools.product(range(1, 9), repeat=2):
            if one + other > 8:
                self.too_great(one + other, put_beside, (one, ()), whole_web(other))
                self.too_great(one + other, all_tied, whole_web(one), (other, ()))
            if one + other > 9:
                self.too_great(one + other - 1, put_together, (one, ()), whole_web(other), one - 1, 0)

    def test_two_webs_refused(self):
        for call in (put_beside, all_tied):
            self.takes(call, "one other", WEB, PAIR)
            for one, other in ((WEB, PAIR), (whole_web(8), WEB)):
                self.in_order(call, (one, other), [(NoWeb, NO_WEBS), (NoWeb, NO_WEBS)])

    def test_together_refused(self):
        self.takes(put_together, "one other place there", WEB, PAIR, 1, 0)
        refusals = [(NoWeb, NO_WEBS), (NoWeb, NO_WEBS), (NoPlace, NO_PLACES), (NoPlace, NO_PLACES)]
        self.in_order(put_together, (WEB, WEB, 1, 2), refusals)
        # Each is a place of just one of both.
        self.refused(NoPlace, put_together, PAIR, WEB, 2, 0)
        self.refused(NoPlace, put_together, WEB, PAIR, 0, 2)
        self.refused(NoPlace, put_together, (8, ()), WEB, 8, 0)
        for thing in NO_PLACES:
            self.refused(NoPlace, put_together, (8, ()), WEB, 0, thing)
            self.refused(NoPlace, put_together, WEB, (8, ()), thing, 0)
        self.in_order(put_together, (whole_web(8), whole_web(8), 1, 2), refusals[:2])


class LengthsTest(Checks):
    """How changes bear on the length of the shortest ring."""

    def some_webs(self):
        yield from [web for many in (1, 2, 3, 4) for web in all_webs(many)]
        yield from list(drawn_webs(5, 8)) + list(drawn_webs(7, 8)) + [round_web(5), round_web(7), whole_web(7)]

    def test_without_a_place_or_a_tie(self):
        for web in self.some_webs():
            least = length(shortest(web))
            if web[0] > 1:
                for place in range(web[0]):
                    self.assertLessEqual(length(shortest(without(web, place))), least)
            for one, other in web[1]:
                self.assertLessEqual(length(shortest(untied(web, one, other))), least)

    def test_twinned_and_topped(self):
        for web in self.some_webs():
            for place in range(web[0]):
                self.assertEqual(shortest(twinned(web, place)), shortest(web))
            self.assertEqual(shortest(topped(web)), (fewest_plain(web) + 1, 1), web)

    def test_two_webs(self):
        webs = list(all_webs(3)) + [ONE, PAIR, whole_web(4), round_web(4), round_web(5)] + list(drawn_webs(4, 4))
        for one, other in itertools.product(webs, repeat=2):
            if one[0] + other[0] <= 8:
                greater = max(shortest(one), shortest(other), key=length)
                self.assertEqual(shortest(put_beside(one, other)), greater, (one, other))
                self.assertEqual(shortest(put_together(one, other, one[0] - 1, 0)), greater)
                both = fewest_plain(one) + fewest_plain(other)
                self.assertEqual(shortest(all_tied(one, other)), (both, 1), (one, other))
