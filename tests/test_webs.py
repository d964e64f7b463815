import itertools

from ringhues.errors import NoPlace, NoWeb
from ringhues.webs import ends_of, is_web, web_of
from tests.helpers import NO_WEBS, ODD, Checks, all_webs, whole_web

NO_MANYS = [thing for thing in ODD if thing not in (1, 2, 7) or thing is True] + [
    0, 9, True, False, None, "1", (1,), [1], -1, 10 ** 99,
]


class IsWebTest(Checks):
    def test_webs(self):
        for many in range(1, 9):
            self.says(True, is_web, (many, ()))
            self.says(True, is_web, whole_web(many))
        self.says(True, is_web, (4, ((0, 1), (0, 3), (2, 3))))
        self.says(True, is_web, (8, ((0, 7), (6, 7))))

    def test_all_small_webs(self):
        for many in range(1, 5):
            for web in all_webs(many):
                self.says(True, is_web, web)

    def test_what_is_none(self):
        for thing in NO_WEBS:
            self.says(False, is_web, thing)

    def test_each_tie_of_a_great_web_counts(self):
        many, ties = whole_web(8)
        for at in range(len(ties)):
            for wrong in (list(ties[at]), ties[at][::-1], (ties[at][0], ties[at][0]), (ties[at][0], 8), (-1, ties[at][1])):
                self.says(False, is_web, (many, ties[:at] + (wrong,) + ties[at + 1:]))
            self.says(False, is_web, (many, ties[:at] + (ties[at],) + ties[at:]))

    def test_by_name(self):
        self.says(True, is_web, thing=(1, ()))


class WebOfTest(Checks):
    def test_ties_in_any_order_either_way_round(self):
        ties = ((0, 1), (0, 3), (2, 3))
        for order in itertools.permutations(ties):
            for turns in itertools.product((1, -1), repeat=3):
                things = [tie[::turn] for tie, turn in zip(order, turns)]
                self.assertEqual(self.told(web_of, 4, things), (4, ties))

    def test_what_is_told_is_a_web(self):
        for many in range(1, 9):
            self.assertEqual(web_of(many, []), (many, ()))
            things = [(j, i) for i, j in whole_web(many)[1]][::-1]
            web = self.told(web_of, many, things)
            self.assertEqual(web, whole_web(many))
            self.says(True, is_web, web)
            self.assertTrue(all(type(end) is int for tie in web[1] for end in tie))

    def test_no_many(self):
        for many in NO_MANYS:
            self.no_web(-1, web_of, many, [])
            self.no_web(-1, web_of, many, [(0, 1)])
            self.no_web(-1, web_of, many, [None, (0, 0)])

    def test_the_first_thing_amiss(self):
        amiss = [thing for thing in ODD if thing not in [(0, 1), (1, 2)]] + [
            [0, 1], "01", (0,), (0, 1, 2), (), ("0", "1"), (0, None), (None, 0), (0, True), (True, 0), (False, 1),
            (0, [1]), ([0], 1), (0, 3), (3, 0), (-1, 0), (0, -1), (0, 10 ** 99), (0, 0), (2, 2),
        ]
        for thing in amiss:
            self.no_web(0, web_of, 3, [thing])
            self.no_web(1, web_of, 3, [(1, 2), thing])
            self.no_web(2, web_of, 3, [(2, 1), (1, 0), thing, None, (1, 2)])

    def test_told_ahead(self):
        self.no_web(1, web_of, 3, [(0, 1), (0, 1)])
        self.no_web(1, web_of, 3, [(0, 1), (1, 0)])
        self.no_web(2, web_of, 3, [(1, 0), (1, 2), (0, 1), (1, 2)])
        self.no_web(3, web_of, 3, [(1, 0), (1, 2), (2, 0), (1, 0)])

    def test_the_only_place_has_no_tie(self):
        self.no_web(0, web_of, 1, [(0, 0)])
        self.no_web(0, web_of, 1, [(0, 1)])

    def test_the_list_and_the_web_are_apart(self):
        things = [(2, 1), (0, 1)]
        web = web_of(3, things)
        self.assertEqual(things, [(2, 1), (0, 1)])
        things.append((0, 2))
        things[0] = None
        self.assertEqual(web, (3, ((0, 1), (1, 2))))

    def test_by_name(self):
        self.assertEqual(web_of(many=2, things=[(1, 0)]), (2, ((0, 1),)))
        self.assertEqual(web_of(things=[(1, 0)], many=2), (2, ((0, 1),)))
        self.no_web(-1, web_of, many=0, things=[])


class EndsOfTest(Checks):
    def test_rising(self):
        web = (5, ((0, 3), (1, 3), (2, 3)))
        self.assertEqual(self.told(ends_of, web, 3), (0, 1, 2))
        self.assertEqual(self.told(ends_of, web, 0), (3,))
        self.assertEqual(self.told(ends_of, web, 4), ())
        self.assertEqual(self.told(ends_of, (1, ()), 0), ())

    def test_whole_webs(self):
        for many in range(1, 9):
            for place in range(many):
                others = tuple(other for other in range(many) if other != place)
                self.assertEqual(ends_of(whole_web(many), place), others)

    def test_all_small_webs(self):
        for web in all_webs(4):
            for place in range(4):
                ends = [i for i in range(4) if (i, place) in web[1] or (place, i) in web[1]]
                self.assertEqual(ends_of(web, place), tuple(ends))

    def test_no_web_goes_ahead(self):
        for thing in NO_WEBS:
            self.no_web(-1, ends_of, thing, 0)
            self.no_web(-1, ends_of, thing, None)

    def test_no_place(self):
        web = (3, ((0, 1),))
        for thing in [thing for thing in ODD if thing not in (0, 1, 2) or isinstance(thing, bool)] + [
            3, -1, True, False, "0", "", (0,), [0], None, 10 ** 99, -(10 ** 99),
        ]:
            self.refused(NoPlace, ends_of, web, thing)
        self.refused(NoPlace, ends_of, (1, ()), 1)

    def test_by_name(self):
        self.assertEqual(ends_of(web=(2, ((0, 1),)), place=1), (0,))
        self.assertEqual(ends_of(place=1, web=(2, ((0, 1),))), (0,))
        self.refused(NoPlace, ends_of, place=2, web=(2, ()))
        self.refused(NoWeb, ends_of, place=2, web=2)
