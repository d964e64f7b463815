import random

from ringhues.changes import topped, twinned, untied, without
from ringhues.crowds import greatest_crowd, greatest_lot
from ringhues.desk import Desk
from ringhues.errors import Apart, HueError, NoPlace, NoRow, NoText, TooGreat
from ringhues.found import first_hues
from ringhues.judges import always_full
from ringhues.plain import fewest_plain, first_plain
from ringhues.shortest import has_room, shortest, shortest_hues
from ringhues.texts import web_read, web_shown
from tests.helpers import ODD, Checks, drawn_webs, rings_to, round_web, whole_web

FIVE = "5: 0-1 0-4 1-2 2-3 3-4"


def joined(numbers):
    return " ".join(map(str, numbers))


class Desks(Checks):
    def desk(self, *deeds):
        """A desk behind some deeds, each answered ok."""
        desk = Desk()
        for row in deeds:
            self.assertEqual(desk.say(row), "ok", row)
        return desk

    def answers(self, desk, row, answer):
        said = desk.say(row)
        self.assertIs(type(said), str)
        self.assertEqual(said, answer, row)

    def refuses(self, kind, desk, row):
        """The refusal; the web stays as it is."""
        before = desk.say("shown")
        wrong = self.refused(kind, desk.say, row)
        self.assertEqual(desk.say("shown"), before, row)
        return wrong


class DeedsTest(Desks):
    def test_at_first(self):
        self.answers(Desk(), "shown", "1:")

    def test_web(self):
        for web in [(1, ()), (8, ()), whole_web(8), round_web(5)] + list(drawn_webs(6, 5)):
            desk = self.desk("web " + web_shown(web))
            self.answers(desk, "shown", web_shown(web))

    def test_web_refused(self):
        desk = self.desk("web " + FIVE)
        for text, at in (
            ("", 0), (" ", 0), (" 4:", 0), ("4", 0), ("9:", 0), ("0:", 0), ("x", 0), ("web 4:", 0), ("04:", 0), ("4: ", 1),
            ("4:  0-1", 1), ("4: 1-0", 1), ("4: 0-4", 1), ("4: 0-1 ", 2), ("4: 0-1 0-1", 2), ("4: 0-1 x 0-0", 2),
        ):
            self.assertEqual(self.refused(NoText, web_read, text).at, at)
            self.assertEqual(self.refuses(NoText, desk, "web " + text).at, at, text)
        self.refuses(NoRow, desk, "web")

    def test_tie(self):
        desk = self.desk("web 4: 0-1", "tie 2 3", "tie 3 0")
        self.answers(desk, "shown", "4: 0-1 0-3 2-3")
        for row in ("tie 0 0", "tie 3 3", "tie 0 4", "tie 4 0", "tie 9 9", "tie 8 9", "tie 4 4", "tie 0 9"):
            self.refuses(NoPlace, desk, row)
        for row in ("tie 0 1", "tie 1 0", "tie 3 2", "tie 0 3"):
            self.refuses(Apart, desk, row)
        self.refuses(NoPlace, Desk(), "tie 0 0")
        self.refuses(NoPlace, Desk(), "tie 0 1")

    def test_cut(self):
        desk = self.desk("web " + FIVE, "cut 4 0", "cut 1 2")
        self.answers(desk, "shown", "5: 0-1 2-3 3-4")
        for row in ("cut 0 5", "cut 5 0", "cut 9 9", "cut 5 5"):
            self.refuses(NoPlace, desk, row)
        for row in ("cut 0 4", "cut 0 0", "cut 1 3"):
            self.refuses(Apart, desk, row)

    def test_lose_and_twin_and_top(self):
        desk = self.desk("web " + FIVE, "lose 1")
        self.answers(desk, "shown", "4: 0-3 1-2 2-3")
        self.desk_does(desk, "twin 3", "5: 0-3 0-4 1-2 2-3 2-4")
        self.desk_does(desk, "top", "6: 0-3 0-4 0-5 1-2 1-5 2-3 2-4 2-5 3-5 4-5")
        for row in ("lose 6", "lose 9", "twin 6", "twin 9"):
            self.refuses(NoPlace, desk, row)
        for row in ("lose 0", "lose 1", "twin 1", "twin 9"):
            self.refuses(NoPlace, Desk(), row)
        self.desk_does(Desk(), "twin 0", "2:")
        self.desk_does(Desk(), "top", "2: 0-1")

    def desk_does(self, desk, row, shown):
        self.answers(desk, row, "ok")
        self.answers(desk, "shown", shown)

    def test_eight_places(self):
        desk = self.desk("web 8: 0-7")
        for row in ("top", "twin 0", "twin 7"):
            wrong = self.refuses(TooGreat, desk, row)
            self.assertEqual((wrong.many, wrong.most), (9, 8))
        self.refuses(NoPlace, desk, "twin 8")
        self.refuses(NoPlace, desk, "twin 9")
        self.desk_does(desk, "lose 0", "7:")
        self.desk_does(desk, "top", "8: 0-7 1-7 2-7 3-7 4-7 5-7 6-7")


class BackTest(Desks):
    def test_behind_several_deeds(self):
        rows = ["top", "twin 0", "tie 0 2", "cut 0 1", "lose 1", "web 3: 1-2", "web 3: 1-2", "tie 0 1"]
        desk, shown = Desk(), []
        for row in rows:
            shown.append(desk.say("shown"))
            self.answers(desk, row, "ok")
        while shown:
            self.answers(desk, "back", "ok")
            self.answers(desk, "shown", shown.pop())
        self.refuses(NoRow, desk, "back")
        self.refuses(NoRow, desk, "back")

    def test_when_none_stands(self):
        self.refuses(NoRow, Desk(), "back")
        desk = self.desk("top", "back")
        self.refuses(NoRow, desk, "back")
        self.answers(desk, "shown", "1:")
        self.answers(desk, "top", "ok")
        self.answers(desk, "shown", "2: 0-1")

    def test_back_is_no_deed_that_it_undoes(self):
        desk = self.desk("top", "top", "back", "back")
        self.answers(desk, "shown", "1:")
        desk = self.desk("top", "back", "twin 0", "top", "back")
        self.answers(desk, "shown", "2:")

    def test_behind_refused_ones_and_questions(self):
        desk = self.desk("web 3: 0-1", "top")
        for kind, row in (
            (Apart, "tie 0 1"), (NoPlace, "lose 9"), (NoRow, "tops"), (NoText, "web x"), (NoText, "room x"), (NoRow, None),
        ):
            self.refuses(kind, desk, row)
        for row in ("shortest", "hues", "room 5/2", "full 3/1", "lot"):
            desk.say(row)
        self.answers(desk, "back", "ok")
        self.answers(desk, "shown", "3: 0-1")
        self.answers(desk, "back", "ok")
        self.answers(desk, "shown", "1:")
        self.refuses(NoRow, desk, "back")

    def test_deeds_behind_back(self):
        desk = self.desk("web 4: 0-1", "tie 0 2", "back", "tie 0 3", "top", "back", "back")
        self.answers(desk, "shown", "4: 0-1")


class QuestionsTest(Desks):
    def test_ordinary(self):
        desk = self.desk("web " + FIVE)
        for row, answer in (
            ("shown", FIVE), ("shortest", "5/2"), ("hues", "0 2 4 1 3"), ("plain", "0 1 0 1 2"), ("fewest", "3"),
            ("crowd", "0 1"), ("lot", "0 2"), ("room 5/2", "yes"), ("room 7/3", "no"), ("room 24/1", "yes"),
            ("first 5/2", "0 2 4 1 3"), ("first 7/3", "none"), ("first 24/9", "0 9 18 3 12"), ("full 5/2", "yes"),
            ("full 10/4", "yes"), ("full 3/1", "no"), ("full 2/1", "no"),
        ):
            self.answers(desk, row, answer)
            self.answers(desk, row, answer)

    def test_one_place(self):
        for row, answer in (
            ("shown", "1:"), ("shortest", "1/1"), ("hues", "0"), ("plain", "0"), ("fewest", "1"), ("crowd", "0"),
            ("lot", "0"), ("room 1/1", "yes"), ("first 24/24", "0"), ("full 1/1", "no"),
        ):
            self.answers(Desk(), row, answer)

    def test_as_the_functions_tell(self):
        for web in [(8, ()), whole_web(8), round_web(7)] + list(drawn_webs(6, 8)) + list(drawn_webs(8, 4)):
            desk = self.desk("web " + web_shown(web))
            ring = shortest(web)
            self.answers(desk, "shortest", f"{ring[0]}/{ring[1]}")
            self.answers(desk, "hues", joined(shortest_hues(web)))
            self.answers(desk, "plain", joined(first_plain(web)))
            self.answers(desk, "fewest", str(fewest_plain(web)))
            self.answers(desk, "crowd", joined(greatest_crowd(web)))
            self.answers(desk, "lot", joined(greatest_lot(web)))
            for k, d in rings_to(8) + [(24, 5), (24, 12), (23, 11), (10, 4)]:
                hues = first_hues(web, (k, d))
                self.answers(desk, f"room {k}/{d}", "yes" if has_room(web, (k, d)) else "no")
                self.answers(desk, f"first {k}/{d}", "none" if hues is None else joined(hues))
                self.answers(desk, f"full {k}/{d}", "yes" if always_full(web, (k, d)) else "no")
            self.answers(desk, "shown", web_shown(web))

    def test_rings_refused(self):
        desk = self.desk("web " + FIVE)
        for word in ("room", "first", "full"):
            for text in ("", "x", "5", "5/", "/2", "5/6", "0/0", "25/1", "05/2", "+5/2", "5/2/1", "5-2", "~", "back"):
                self.assertEqual(self.refuses(NoText, desk, f"{word} {text}").at, 0, text)


class NoRowTest(Desks):
    def test_no_texts(self):
        desk = self.desk("web " + FIVE)
        for thing in ODD + [["shown"], ("shown",), {"shown": 1}, b"shown"]:
            self.refuses(NoRow, desk, thing)

    def test_other_words(self):
        desk = self.desk("web " + FIVE)
        for row in (
            "", " ", "x", "Shown", "SHOWN", "show", "showns", "webs 4:", "WEB 4:", "Tie 0 1", "ok", "none", "0", "0 1",
            "tie01", "tie-0-1", "ties 0 2", "without 0", "untied 0 1", "first_hues 5/2", "5/2", FIVE, "tie\t0\t1", "top\n",
            "\ttop", "back;", "undo", "say shown",
        ):
            self.refuses(NoRow, desk, row)

    def test_a_word_more_or_fewer(self):
        desk = self.desk("web " + FIVE)
        for word in ("shown", "shortest", "hues", "plain", "fewest", "crowd", "lot", "top", "back"):
            for behind in (" 0", " 5/2", " " + word, " ", " x"):
                self.refuses(NoRow, desk, word + behind)
        for row in (
            "web", "tie", "cut", "lose", "twin", "room", "first", "full", "tie 0", "cut 0", "tie 0 2 3", "cut 0 1 2",
            "lose 0 1", "twin 0 1", "room 5/2 5/2", "first 5/2 x", "full 5/2 0", "lose 0 x", "tie 0 2 x",
        ):
            self.refuses(NoRow, desk, row)

    def test_blanks(self):
        desk = self.desk("web " + FIVE)
        for row in (
            "tie  0 2", "tie 0  2", "tie 0 2 ", " tie 0 2", "tie ", "tie  ", "tie 0 ", "lose ", "lose  0", "lose 0 ", " top",
            "top ", " shown", "shown ", " room 5/2", "room  5/2", "room 5/2 ", "  ", " web 4:", " back", "back ",
        ):
            self.refuses(NoRow, desk, row)

    def test_figures_that_are_none(self):
        desk = self.desk("web " + FIVE)
        for figure in ("10", "00", "01", "-1", "+1", "a", "x", "", "1.", "1/1", "0-1", "12", "\u0661", "\u00b2", "~", "1\n"):
            self.refuses(NoRow, desk, f"tie {figure} 2")
            self.refuses(NoRow, desk, f"tie 0 {figure}")
            # Ahead of what is no place, and of what is not tied.
            self.refuses(NoRow, desk, f"tie 9 {figure}")
            self.refuses(NoRow, desk, f"cut {figure} 9")
            self.refuses(NoRow, desk, f"cut 0 {figure}")
            self.refuses(NoRow, desk, f"lose {figure}")
            self.refuses(NoRow, desk, f"twin {figure}")
        full = self.desk("web 8:")
        self.refuses(NoRow, full, "twin 10")
        self.refuses(NoRow, full, "top 0")


class WholeDeskTest(Desks):
    def test_two_desks_at_once(self):
        one, other = Desk(), Desk()
        self.answers(one, "top", "ok")
        self.answers(other, "twin 0", "ok")
        self.answers(one, "shown", "2: 0-1")
        self.answers(other, "shown", "2:")
        self.answers(one, "back", "ok")
        self.refuses(NoRow, one, "back")
        self.answers(other, "back", "ok")
        self.answers(Desk(), "shown", "1:")

    def test_by_name(self):
        desk = Desk()
        self.assertEqual(desk.say(row="top"), "ok")
        self.assertEqual(desk.say(row="shown"), "2: 0-1")

    def test_long_talks(self):
        draw = random.Random(10)
        for _ in range(25):
            desk, webs, stood = Desk(), [(1, ())], 0
            for _ in range(60):
                row = self.drawn_row(draw, webs[-1])
                expected = self.plainly(webs, row)
                if isinstance(expected, HueError):
                    wrong = self.refused(type(expected), desk.say, row)
                    self.assertEqual(vars(wrong), vars(expected))
                else:
                    self.answers(desk, row, "ok")
                    stood += 1
                self.answers(desk, "shown", web_shown(webs[-1]))
            self.assertGreater(stood, 10)
            # The deeds that stand, told alone to another desk, leave the same web.
            fresh = self.desk(*["web " + web_shown(web) for web in webs[1:]])
            for question in ("shown", "shortest", "hues", "crowd", "first 8/3"):
                self.answers(fresh, question, desk.say(question))

    def drawn_row(self, draw, web):
        word = draw.choice(["tie"] * 4 + ["cut", "cut", "lose", "twin", "top", "top", "back", "web"])
        if word == "web":
            return "web " + draw.choice(["4: 0-1", "5: 1-4 2-3", "4: 1-0", "3:  0-1", FIVE])
        many = {"tie": 2, "cut": 2, "lose": 1, "twin": 1}.get(word, 0)
        return " ".join([word] + [str(draw.randrange(web[0] + 1)) for _ in range(many)])

    def plainly(self, webs, row):
        """What a row makes of the webs so far, the refusal where there is one."""
        word, _, rest = row.partition(" ")
        try:
            if word == "back":
                if len(webs) == 1:
                    raise NoRow()
                webs.pop()
                return None
            figures = [int(figure) for figure in rest.split()] if word != "web" else []
            webs.append({
                "web": lambda: web_read(rest), "tie": lambda: self.tied(webs[-1], *figures),
                "cut": lambda: untied(webs[-1], *figures), "lose": lambda: without(webs[-1], *figures),
                "twin": lambda: twinned(webs[-1], *figures), "top": lambda: topped(webs[-1]),
            }[word]())
        except HueError as wrong:
            return wrong
        return None

    def tied(self, web, one, other):
        tie = (min(one, other), max(one, other))
        if one == other or tie[1] >= web[0]:
            raise NoPlace()
        if tie in web[1]:
            raise Apart()
        return (web[0], tuple(sorted(web[1] + (tie,))))
