from ringhues.errors import TooGreat
from ringhues.things import check_most, is_row, is_whole, is_within
from tests.helpers import ODD, Checks


class ThingsTest(Checks):
    def test_whole_numbers_are_ints_but_truths(self):
        for thing in (0, 1, -1, 10 ** 99, -(10 ** 99)):
            self.says(True, is_whole, thing)
        for thing in (True, False, None, "1", [1], (1,), {1: 1}):
            self.says(False, is_whole, thing)

    def test_within(self):
        for thing, truth in ((0, False), (1, True), (8, True), (9, False), (True, False), ("1", False), (None, False)):
            self.says(truth, is_within, thing, 1, 8)

    def test_rows_are_tuples(self):
        self.says(True, is_row, (), 0)
        self.says(True, is_row, (None, []), 2)
        for thing in ([], {}, "", [1, 2], "ab", {1: 1, 2: 2}, (1,), (1, 2, 3), None, 2):
            self.says(False, is_row, thing, 2)

    def test_no_more_than_there_may_be(self):
        for many in (-1, 0, 8):
            self.assertIsNone(self.told(check_most, many, 8))
        for many in (9, 10 ** 99):
            wrong = self.refused(TooGreat, check_most, many, 8)
            self.assertEqual((wrong.many, wrong.most), (many, 8))

    def test_odd_things_are_answered(self):
        for thing in ODD:
            for answer in (is_whole(thing), is_within(thing, 0, 5), is_row(thing, 1)):
                self.assertIn(repr(answer), ("True", "False"))
