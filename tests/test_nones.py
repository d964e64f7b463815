import itertools

from ringhues.errors import NoHues, NoRing
from ringhues.found import first_known
from ringhues.nones import none_for, none_holds
from tests.helpers import NO_RINGS, NO_WEBS, ODD, Checks, all_webs, plain_gap, rings_to, round_web, whole_web
from tests.test_found import NO_KNOWN, all_known
from tests.test_hues import RING, WEB

PAIR = (2, ((0, 1),))
TRIANGLE = whole_web(3)
BLANK = (None, None, None)
E0, E1, E2 = ("end", 0), ("end", 1), ("end", 2)

# A triangle has no room on the ring (2, 1): place 0 at either spot, then place 1 at the same one or the other.
WITHIN = ("case", 0, (("case", 1, (E1, E2)), ("case", 1, (E2, E1))))


def plain_none_holds(web, ring, known, paper):
    """The words of the document, over again."""
    k, d = ring
    near = {}
    for i, j in web[1]:
        near.setdefault(i, []).append(j)
        near.setdefault(j, []).append(i)
    if type(paper) is not tuple or len(paper) < 2 or type(paper[1]) is not int or paper[1] not in range(web[0]):
        return False
    place, spots = paper[1], [known[end] for end in near.get(paper[1], []) if known[end] is not None]
    if paper[0] == "end" and len(paper) == 2:
        own = range(k) if known[place] is None else [known[place]]
        return all(any(plain_gap(k, s, spot) < d for spot in spots) for s in own)
    if paper[0] == "case" and len(paper) == 3 and known[place] is None:
        papers = paper[2]
        return type(papers) is tuple and len(papers) == k and all(
            plain_none_holds(web, ring, known[:place] + (s,) + known[place + 1:], papers[s]) for s in range(k)
        )
    return False


def spoilt(paper):
    """The paper with one thing otherwise, at each spot of it, that makes it none whatever it is a paper of."""
    yield list(paper)
    yield ("End",) + paper[1:]
    yield (paper[0].upper(),) + paper[1:]
    yield (None,) + paper[1:]
    yield paper + (paper[1],)
    yield paper[:-1]
    for place in (-1, 8, 10 ** 99, None, "0", (0,), [0], True, False):
        yield (paper[0], place) + paper[2:]
    if paper[0] == "end":
        yield ("case", paper[1])
        yield ("end", paper[1], ())
        return
    word, place, papers = paper
    yield ("end", place, papers)
    yield (word, place, list(papers))
    yield (word, place, papers[:-1])
    yield (word, place, papers[1:])
    yield (word, place, papers + papers[:1])
    yield (word, place, ())
    yield (word, place, None)
    for at, inner in enumerate(papers):
        for wrong in spoilt(inner):
            yield (word, place, papers[:at] + (wrong,) + papers[at + 1:])
        yield (word, place, papers[:at] + (paper,) + papers[at + 1:])


class NoneHoldsTest(Checks):
    def test_end_at_a_place_that_is_not_known(self):
        self.says(True, none_holds, WEB, (4, 2), (0, None, 1), E1)
        self.says(True, none_holds, PAIR, (5, 3), (0, None), E1)
        self.says(True, none_holds, PAIR, (1, 1), (0, None), E1)
        self.says(False, none_holds, PAIR, (4, 2), (0, None), E1)
        self.says(False, none_holds, PAIR, (5, 3), (0, None), E0)
        self.says(False, none_holds, PAIR, (5, 3), (None, None), E1)
        self.says(True, none_holds, WEB, (4, 2), (0, None, 2), E1)
        self.says(False, none_holds, WEB, (4, 2), (0, None, 0), E1)
        self.says(False, none_holds, WEB, (4, 2), (0, None, 1), E0)
        self.says(False, none_holds, (2, ()), (1, 1), (0, None), E1)

    def test_end_at_a_place_that_is_known(self):
        for place in (E0, E1):
            self.says(True, none_holds, WEB, RING, (0, 1, None), place)
            self.says(True, none_holds, WEB, RING, (0, 4, None), place)
            self.says(False, none_holds, WEB, RING, (0, 2, None), place)
        self.says(False, none_holds, WEB, RING, (0, 1, 3), E2)
        self.says(False, none_holds, WEB, RING, (0, None, 0), E0)
        self.says(False, none_holds, (2, ()), RING, (0, 0), E0)

    def test_cases(self):
        self.says(True, none_holds, TRIANGLE, (2, 1), BLANK, WITHIN)
        self.says(True, none_holds, PAIR, (1, 1), (None, None), ("case", 0, (E1,)))
        self.says(True, none_holds, PAIR, (1, 1), (None, None), ("case", 1, (E0,)))
        self.says(True, none_holds, PAIR, (1, 1), (None, None), ("case", 1, (("case", 0, (E1,)),)))
        self.says(True, none_holds, TRIANGLE, (2, 1), (0, None, None), ("case", 1, (E0, E2)))
        self.says(False, none_holds, TRIANGLE, (2, 1), (0, None, None), ("case", 1, (E2, E1)))

    def test_a_case_at_a_known_place(self):
        self.says(False, none_holds, TRIANGLE, (2, 1), (0, None, None), WITHIN)
        self.says(False, none_holds, PAIR, (1, 1), (0, None), ("case", 0, (E1,)))
        self.says(False, none_holds, PAIR, (1, 1), (None, None), ("case", 0, (("case", 0, (E1,)),)))
        self.says(False, none_holds, PAIR, (2, 1), (0, 0), ("case", 0, (E0, E0)))

    def test_papers_in_another_order(self):
        self.says(False, none_holds, TRIANGLE, (2, 1), BLANK, ("case", 0, WITHIN[2][::-1]))

    def test_a_needless_case_holds(self):
        paper = ("case", 2, (E0,) * 5)
        self.says(True, none_holds, WEB, RING, (0, 1, None), paper)

    def test_one_thing_otherwise(self):
        for wrong in spoilt(WITHIN):
            self.says(False, none_holds, TRIANGLE, (2, 1), BLANK, wrong)
        for wrong in spoilt(E1):
            self.says(False, none_holds, WEB, (4, 2), (0, None, 1), wrong)

    def test_truths_for_places(self):
        self.says(True, none_holds, PAIR, (5, 3), (0, None), ("end", 1))
        self.says(False, none_holds, PAIR, (5, 3), (0, None), ("end", True))
        self.says(False, none_holds, PAIR, (5, 3), (None, 0), ("end", False))
        self.says(False, none_holds, PAIR, (1, 1), (None, None), ("case", True, (E0,)))

    def test_odd_things(self):
        for thing in ODD + [("end",), ("end", 0, 0), ("case", 0), ("case", 0, ()), ("case", 0, (None,) * 5), "end", 0]:
            self.says(False, none_holds, WEB, RING, BLANK, thing)
            self.says(False, none_holds, WEB, RING, (0, 1, None), ("case", 2, (E0,) * 4 + (thing,)))

    def test_no_paper_holds_where_there_are_hues(self):
        ends = [("end", place) for place in range(3)]
        for known in all_known(3, 2):
            for paper in ends + [("case", place, row) for place in range(3) for row in itertools.product(ends, repeat=2)]:
                holds = plain_none_holds(TRIANGLE, (2, 1), known, paper)
                self.says(holds, none_holds, TRIANGLE, (2, 1), known, paper)
                holds = plain_none_holds(WEB, (2, 1), known, paper)
                self.says(holds, none_holds, WEB, (2, 1), known, paper)
                self.assertFalse(holds and first_known(WEB, (2, 1), known) is not None)

    def test_by_name(self):
        self.says(True, none_holds, thing=WITHIN, known=BLANK, ring=(2, 1), web=TRIANGLE)


class NoneForTest(Checks):
    def just_one(self, web, ring, known):
        found, paper = first_known(web, ring, known), none_for(web, ring, known)
        self.assertEqual(found is None, paper is not None, (web, ring, known))
        if paper is not None:
            self.assertIs(none_holds(web, ring, known, paper), True, (web, ring, known))
            self.assertTrue(plain_none_holds(web, ring, known, paper))

    def test_hues_or_papers_on_small_webs(self):
        for many, most in ((1, 4), (2, 4), (3, 3)):
            for web in all_webs(many):
                for ring in rings_to(most):
                    for known in all_known(many, ring[0]):
                        self.just_one(web, ring, known)

    def test_hues_or_papers_on_webs_of_four_places(self):
        for web in all_webs(4):
            for ring in rings_to(7):
                for known in ((None,) * 4, (0, None, None, ring[0] - 1), (None, 0, 0, None), (None, None, None, 0)):
                    self.just_one(web, ring, known)

    def test_hues_or_papers_on_greater_webs(self):
        for web in (round_web(5), round_web(7), whole_web(5), (6, round_web(5)[1] + ((0, 5), (2, 5), (3, 5)))):
            web = (web[0], tuple(sorted(web[1])))
            for ring in ((5, 2), (7, 3), (7, 2), (4, 1), (9, 4), (12, 5), (24, 11)):
                self.just_one(web, ring, (None,) * web[0])
                self.just_one(web, ring, (None,) * (web[0] - 1) + (1,))

    def test_eight_places_and_24_spots(self):
        for web, ring in (
            ((8, ((5, 6), (5, 7), (6, 7))), (24, 9)), ((8, ((6, 7),)), (24, 13)), (round_web(8), (24, 13)),
            (whole_web(8), (24, 7)), (whole_web(8), (24, 24)),
        ):
            known = (None,) * 8
            paper = self.told(none_for, web, ring, known) if ring != (24, 7) else none_for(web, ring, known)
            self.assertIs(none_holds(web, ring, known, paper), True)
        self.assertIsNone(none_for(whole_web(8), (24, 3), (None,) * 8))
        self.assertEqual(none_for(whole_web(8), (24, 4), (None,) * 8)[0], "case")

    def test_ordinary(self):
        self.assertIn(self.told(none_for, WEB, RING, (0, 1, None)), (E0, E1))
        self.assertIsNone(self.told(none_for, WEB, RING, BLANK))
        self.assertIsNone(self.told(none_for, WEB, RING, (0, 2, 0)))
        self.assertIs(type(self.told(none_for, TRIANGLE, (5, 2), BLANK)), tuple)

    def test_by_name(self):
        self.assertIsNone(none_for(known=BLANK, ring=RING, web=WEB))


class RefusalsTest(Checks):
    CALLS = [(none_for, ()), (none_holds, (E0,)), (none_holds, (None,))]

    def test_no_web_goes_ahead(self):
        for call, more in self.CALLS:
            for thing in NO_WEBS:
                self.no_web(-1, call, thing, RING, BLANK, *more)
                self.no_web(-1, call, thing, None, None, *more)

    def test_no_ring_goes_next(self):
        for call, more in self.CALLS:
            for thing in NO_RINGS:
                self.refused(NoRing, call, WEB, thing, BLANK, *more)
                self.refused(NoRing, call, WEB, thing, None, *more)

    def test_no_hues_goes_last(self):
        for call, more in self.CALLS:
            for thing in NO_KNOWN:
                self.refused(NoHues, call, WEB, RING, thing, *more)
