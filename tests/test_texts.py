from ringhues.errors import NoRing, NoText, NoWeb
from ringhues.texts import ring_read, ring_shown, web_read, web_shown
from tests.helpers import NO_RINGS, NO_WEBS, ODD, Checks, all_webs, drawn_webs, rings_to, round_web, whole_web

NO_TEXTS = [thing for thing in ODD if not isinstance(thing, str)] + [
    ["4:"], ("4:",), {"4:": 1}, 4, (4, ()), (5, 2), ["5/2"], ("5/2",), None, True,
]


def shown_by_hand(web):
    text = str(web[0]) + ":"
    for one, other in web[1]:
        text += " " + str(one) + "-" + str(other)
    return text


class Texts(Checks):
    def no_text(self, at, call, thing):
        self.assertEqual(self.refused(NoText, call, thing).at, at, thing)


class WebTextTest(Texts):
    def test_there_and_back(self):
        webs = [web for many in range(1, 5) for web in all_webs(many)]
        for many in (5, 6, 7, 8):
            webs += list(drawn_webs(many, 10)) + [(many, ()), whole_web(many), round_web(many)]
        for web in webs:
            text = web_shown(web)
            self.assertEqual(text, shown_by_hand(web))
            self.assertEqual(repr(self.told(web_read, text)), repr(web))

    def test_ordinary(self):
        self.assertEqual(self.told(web_shown, (4, ((0, 1), (0, 3), (2, 3)))), "4: 0-1 0-3 2-3")
        self.assertEqual(self.told(web_shown, (1, ())), "1:")
        self.assertEqual(self.told(web_shown, (8, ((6, 7),))), "8: 6-7")
        self.assertEqual(self.told(web_read, "4: 0-1 0-3 2-3"), (4, ((0, 1), (0, 3), (2, 3))))
        self.assertEqual(self.told(web_read, "1:"), (1, ()))
        self.assertEqual(self.told(web_read, "8: 6-7"), (8, ((6, 7),)))

    def test_no_texts(self):
        for thing in NO_TEXTS:
            self.no_text(-1, web_read, thing)

    def test_first_words(self):
        for text in (
            "", " ", "  ", "~", "4", ":", "::", "4::", "4:0-1", "4 :", " 4:", "4;", "0:", "9:", "10:", "12:", "04:", "00:",
            "+4:", "-4:", "-1:", "4.:", "4.0:", "a:", "four:", "4:x", "x4:", "44:", ":4", "1-0 :4",
            "0-1", "0-1 4:", "1 :", "1_:", "1,:", "(4, ())", "4:\t", "4:\n", "\u0664:", "\u00b2:", "4\uff1a",
        ):
            self.no_text(0, web_read, text)
            self.no_text(0, web_read, text + " 0-1")
            self.no_text(0, web_read, text + " x")

    def test_words_that_are_no_ties(self):
        for word in (
            "", "0", "01", "0-", "-1", "-", "--", "0--1", "0-1-", "-0-1", "0-1-2", "0+1", "0:1", "0,1", "0_1", "0/1", "+0-1",
            "0-+1", "00-1", "0-01", "0-001", "1-0", "3-2", "0-0", "2-2", "0-4", "3-4", "4-5", "0-9", "0-10", "a-b", "0-a",
            "x", "~", "4:", "(0,", "0-1,", "0.-1", "0-1\n", "\t0-1", "\u0660-\u0661", "0\u20131",
        ):
            self.no_text(1, web_read, "4: " + word)
            self.no_text(1, web_read, "4: " + word + " 0-1")
            self.no_text(2, web_read, "4: 0-1 " + word)
            self.no_text(3, web_read, "4: 0-1 0-2 " + word + " 2-3")
            self.no_text(3, web_read, "4: 0-1 0-2 " + word + " 2-3 x")

    def test_places_beyond(self):
        for many in range(1, 9):
            for one in range(10):
                for other in range(10):
                    text = f"{many}: {one}-{other}"
                    if one < other < many:
                        self.assertEqual(web_read(text), (many, ((one, other),)))
                    else:
                        self.no_text(1, web_read, text)

    def test_blanks(self):
        self.no_text(1, web_read, "4: ")
        self.no_text(1, web_read, "4:  ")
        self.no_text(1, web_read, "4:  0-1")
        self.no_text(2, web_read, "4: 0-1 ")
        self.no_text(2, web_read, "4: 0-1  0-2")
        self.no_text(4, web_read, "4: 0-1 0-2 0-3 ")
        self.no_text(0, web_read, " 4: 0-1")

    def test_ties_rise(self):
        self.no_text(2, web_read, "4: 0-1 0-1")
        self.no_text(2, web_read, "4: 0-2 0-1")
        self.no_text(2, web_read, "4: 1-2 0-3")
        self.no_text(3, web_read, "4: 0-1 2-3 0-1")
        self.no_text(4, web_read, "4: 0-1 0-2 2-3 1-3")
        self.no_text(2, web_read, "4: 0-1 1-0")
        # Behind the tie ahead, not behind all places of it.
        self.assertEqual(web_read("4: 0-3 1-2"), (4, ((0, 3), (1, 2))))

    def test_the_first_wrong_word(self):
        self.no_text(0, web_read, "9: 1-0 x")
        self.no_text(1, web_read, "4: 1-0 x 0-1")
        self.no_text(2, web_read, "4: 2-3 0-1 x")
        self.no_text(2, web_read, "4: 2-3 x 0-1")
        self.no_text(29, web_read, web_shown(whole_web(8)) + " 6-7")
        self.no_text(29, web_read, web_shown(whole_web(8)) + " ")
        self.no_text(1, web_read, "4: " + "0" * 5000 + "-1")

    def test_refusals(self):
        self.takes(web_shown, "web", (4, ((0, 1),)))
        self.takes(web_read, "text", "4: 0-1")
        self.in_order(web_shown, ((4, ((0, 1),)),), [(NoWeb, NO_WEBS)])


class RingTextTest(Texts):
    def test_there_and_back(self):
        for ring in rings_to(24):
            text = ring_shown(ring)
            self.assertEqual(text, str(ring[0]) + "/" + str(ring[1]))
            self.assertEqual(repr(self.told(ring_read, text)), repr(ring))

    def test_ordinary(self):
        self.assertEqual(self.told(ring_shown, (5, 2)), "5/2")
        self.assertEqual(self.told(ring_shown, (24, 24)), "24/24")
        self.assertEqual(self.told(ring_read, "5/2"), (5, 2))
        self.assertEqual(self.told(ring_read, "10/4"), (10, 4))
        self.assertEqual(self.told(ring_read, "1/1"), (1, 1))

    def test_no_texts(self):
        for thing in NO_TEXTS:
            self.no_text(-1, ring_read, thing)

    def test_what_writes_no_ring(self):
        for text in (
            "", " ", "/", "//", "5", "52", "5/", "/2", "5//2", "5/2/", "/5/2", "5/2/1", "5-2", "5:2", "5 2", "5 / 2", "5/ 2",
            "5 /2", " 5/2", "5/2 ", "05/2", "5/02", "5/002", "00/0", "+5/2", "5/+2", "-5/2", "5/-2", "-5/-2", "0/0", "1/0",
            "5/0", "0/1", "5/6", "2/5", "25/1", "25/25", "24/25", "100/1", "5/2.", "5.0/2", "a/b", "5/b", "5_0/2", "1_0/2",
            "(5, 2)", "5/2\n", "5/2\t", "\u0665/2", "5/\u00b2", "5\u20442", "1" * 5000 + "/1", "5/" + "0" * 5000, "~",
        ):
            self.no_text(0, ring_read, text)

    def test_all_small_numbers(self):
        for one in range(0, 30):
            for other in range(0, 30):
                if 1 <= other <= one <= 24:
                    self.assertEqual(ring_read(f"{one}/{other}"), (one, other))
                else:
                    self.no_text(0, ring_read, f"{one}/{other}")

    def test_refusals(self):
        self.takes(ring_shown, "ring", (5, 2))
        self.takes(ring_read, "text", "5/2")
        self.in_order(ring_shown, ((5, 2),), [(NoRing, NO_RINGS)])
