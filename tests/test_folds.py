from ringhues.counts import fixed_many
from ringhues.errors import NoHues
from ringhues.folds import first_folded, folded_many
from ringhues.hues import hues_hold, mirrored_hues, turned_on
from tests.helpers import plain_search, round_web, whole_web
from tests.test_counts import RING, WEB, Few, great_webs, webs_and_rings
from tests.test_hues import NO_HUES


def neighbours(ring, row):
    """What a row becomes by one step on, and by mirroring."""
    k = ring[0]
    return [tuple((spot + 1) % k for spot in row), tuple((k - spot) % k for spot in row)]


def plain_lots(web, ring):
    """All hues, gathered with whatever they become, step by step."""
    left = dict.fromkeys(plain_search(web, ring))
    lots = []
    while left:
        lot = [next(iter(left))]
        del left[lot[0]]
        for row in lot:
            for other in neighbours(ring, row):
                if other in left:
                    del left[other]
                    lot.append(other)
        lots.append(lot)
    return lots


class FoldsTest(Few):
    def test_by_gathering(self):
        sizes = set()
        for web, ring in webs_and_rings():
            lots = plain_lots(web, ring)
            self.assertEqual(folded_many(web, ring), len(lots), (web, ring))
            self.assertIs(type(folded_many(web, ring)), int)
            for lot in lots:
                least = min(lot)
                sizes.add(len(lot) / ring[0])
                for hues in lot[:: 1 + len(lot) // 5]:
                    self.assertEqual(first_folded(web, ring, hues), least, (web, ring, hues))
        self.assertEqual(sizes, {1, 2})

    def test_ordinary(self):
        self.assertEqual(self.told(folded_many, (1, ()), (8, 3)), 1)
        self.assertEqual(self.told(folded_many, (2, ()), (8, 3)), 5)
        self.assertEqual(self.told(folded_many, (2, ((0, 1),)), (8, 3)), 2)
        self.assertEqual(self.told(folded_many, round_web(5), (5, 2)), 1)
        self.assertEqual(self.told(folded_many, whole_web(3), (3, 1)), 1)
        self.assertEqual(self.told(folded_many, whole_web(6), (6, 1)), 60)
        self.assertEqual(self.told(folded_many, round_web(6), (2, 1)), 1)
        self.assertEqual(self.told(folded_many, round_web(5), (7, 3)), 0)
        self.assertEqual(self.told(first_folded, round_web(5), (5, 2), (0, 3, 1, 4, 2)), (0, 2, 4, 1, 3))
        self.assertEqual(self.told(first_folded, round_web(5), (5, 2), (4, 1, 3, 0, 2)), (0, 2, 4, 1, 3))
        self.assertEqual(self.told(first_folded, WEB, RING, (3, 1, 4)), (0, 2, 4))
        self.assertEqual(self.told(first_folded, WEB, (8, 2), (7, 5, 1)), (0, 2, 6))
        self.assertEqual(self.told(first_folded, (3, ()), (8, 8), (5, 5, 4)), (0, 0, 1))
        self.assertEqual(self.told(first_folded, (1, ()), (8, 8), (5,)), (0,))

    def test_six_places_and_eight_spots(self):
        # Of 8 ** 5 with place 0 at 0 just those of spots 0 and 4 are their own mirrored ones.
        self.assertEqual(self.told(folded_many, (6, ()), (8, 2)), (8 ** 5 + 2 ** 5) // 2)
        # Of plain hues all unlike none is: there are but two such spots.
        self.assertEqual(self.told(folded_many, whole_web(6), (8, 1)), fixed_many(whole_web(6), (8, 1)) // 2)
        self.assertEqual(self.told(first_folded, whole_web(6), (8, 1), (7, 0, 2, 5, 6, 4)), (0, 1, 3, 6, 7, 5))

    def test_hues_of_one_lot_have_the_same_one(self):
        for web, ring, hues in ((round_web(6), (8, 3), (0, 3, 6, 1, 6, 3)), (WEB, (8, 3), (6, 1, 4))):
            first = self.told(first_folded, web, ring, hues)
            self.assertIs(hues_hold(web, ring, first), True)
            for steps in range(8):
                turned = turned_on(web, ring, hues, steps)
                self.assertEqual(first_folded(web, ring, turned), first)
                self.assertEqual(first_folded(web, ring, mirrored_hues(web, ring, turned)), first)
            self.assertEqual(first_folded(web, ring, first), first)

    def test_refusals(self):
        self.takes(folded_many, "web ring", WEB, RING)
        self.refuses_great_ones(folded_many)
        self.goes_ahead(folded_many, (WEB, RING))
        self.takes(first_folded, "web ring hues", WEB, RING, (0, 2, 4))
        for thing in ((0, 2, 4), None, (0,) * 8):
            self.refuses_great_ones(first_folded, thing)
        self.goes_ahead(first_folded, (WEB, RING), (0, 2, 4))
        for thing in NO_HUES:
            self.refused(NoHues, first_folded, WEB, RING, thing)
            for web, many in great_webs():
                self.too_great(many, 6, first_folded, web, RING, thing)
            self.too_great(9, 8, first_folded, WEB, (9, 2), thing)
