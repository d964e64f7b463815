"""The whole program: every function by the names of its arguments, and functions that bear on one another."""

import copy
import importlib
import inspect
import itertools

from ringhues import arrows, bounds, changes, counts, crowds, errors, folds, found, hues, judges, maps, moves, needs
from ringhues import nones, plain, rings, ringwebs, rounds, shortest, texts, tight, webs
from ringhues.desk import Desk
from tests.helpers import ODD, Checks, all_webs, drawn_webs, length, rings_to, round_web, whole_web

FIVE = round_web(5)
WEB = (3, ((0, 1), (1, 2)))
PAIR = (2, ((0, 1),))
RING = (5, 2)
STAR = (0, 2, 4, 1, 3)

# Each function of the interface, with sound things by the names of its arguments, in their order.
INTERFACE = {
    "webs": {
        "is_web": {"thing": WEB}, "web_of": {"many": 3, "things": [(1, 0), (1, 2)]}, "ends_of": {"web": WEB, "place": 1},
    },
    "rings": {"is_ring": {"thing": RING}, "steps_apart": {"ring": RING, "one": 0, "other": 4}},
    "hues": {
        "hues_hold": {"web": WEB, "ring": RING, "thing": (0, 2, 4)},
        "turned_on": {"web": WEB, "ring": RING, "hues": (0, 2, 4), "steps": 3},
        "mirrored_hues": {"web": WEB, "ring": RING, "hues": (0, 2, 4)},
        "first_clash": {"web": WEB, "ring": RING, "spots": (0, 2, 3)},
    },
    "found": {
        "first_hues": {"web": WEB, "ring": RING}, "next_hues": {"web": WEB, "ring": RING, "hues": (0, 2, 4)},
        "first_known": {"web": WEB, "ring": RING, "known": (None, 1, None)},
    },
    "nones": {
        "none_holds": {"web": WEB, "ring": RING, "known": (0, 1, None), "thing": ("end", 0)},
        "none_for": {"web": WEB, "ring": RING, "known": (0, 1, None)},
    },
    "shortest": {
        "plain_rings": {"most": 5}, "has_room": {"web": WEB, "ring": RING}, "shortest": {"web": FIVE},
        "shortest_hues": {"web": FIVE},
    },
    "moves": {"moved_hues": {"web": WEB, "ring": RING, "hues": (0, 2, 4), "other": (3, 1)}},
    "rounds": {
        "full_rounds": {"web": FIVE, "ring": RING, "hues": STAR},
        "full_holds": {"web": FIVE, "ring": RING, "hues": STAR, "thing": (0, 1, 2, 3, 4)},
        "laps_of": {"web": FIVE, "ring": RING, "hues": STAR, "full": (0, 1, 2, 3, 4)},
        "may_move": {"web": WEB, "ring": RING, "hues": (0, 2, 0)},
        "moved_on": {"web": WEB, "ring": RING, "hues": (0, 2, 0), "place": 1},
    },
    "judges": {"judged": {"web": FIVE, "ring": RING, "hues": STAR}, "always_full": {"web": FIVE, "ring": RING}},
    "arrows": {
        "are_arrows": {"web": WEB, "thing": (1, -1)}, "turned_arrows": {"web": WEB, "arrows": (1, -1)},
        "all_rounds": {"web": FIVE},
        "along": {"web": FIVE, "arrows": (1, 1, 1, 1, 1), "places": (0, 1, 2, 3, 4)},
    },
    "bounds": {
        "bound_of": {"web": FIVE, "arrows": (1, 1, 1, 1, 1)}, "hues_by": {"web": FIVE, "arrows": (1, 1, 1, 1, 1)},
        "arrows_by": {"web": FIVE, "ring": RING, "hues": STAR}, "best_arrows": {"web": FIVE},
    },
    "plain": {
        "plain_hold": {"web": WEB, "thing": (0, 1, 0)}, "fewest_plain": {"web": WEB}, "first_plain": {"web": WEB},
        "plain_by": {"web": FIVE, "ring": RING, "hues": STAR}, "ring_by": {"web": WEB, "plain": (0, 1, 2)},
    },
    "crowds": {
        "greatest_crowd": {"web": WEB}, "greatest_lot": {"web": WEB}, "lots_of": {"web": WEB, "plain": (0, 1, 0)},
        "ring_bound": {"web": WEB, "thing": ("crowd", (0, 1))},
    },
    "counts": {
        "hues_many": {"web": WEB, "ring": RING}, "fixed_many": {"web": WEB, "ring": RING},
        "all_fixed": {"web": WEB, "ring": RING}, "by_spots": {"web": WEB, "d": 2},
    },
    "folds": {
        "folded_many": {"web": WEB, "ring": RING}, "first_folded": {"web": WEB, "ring": RING, "hues": (3, 1, 4)},
    },
    "changes": {
        "without": {"web": WEB, "place": 1}, "untied": {"web": WEB, "one": 2, "other": 1}, "topped": {"web": WEB},
        "twinned": {"web": WEB, "place": 1}, "put_beside": {"one": WEB, "other": PAIR},
        "all_tied": {"one": WEB, "other": PAIR}, "put_together": {"one": WEB, "other": PAIR, "place": 2, "there": 1},
    },
    "needs": {"needed_places": {"web": WEB}, "needed_part": {"web": WEB}},
    "ringwebs": {"ring_web": {"ring": RING}, "leads": {"one": RING, "other": (3, 1)}},
    "maps": {
        "map_holds": {"web": WEB, "other": PAIR, "thing": (0, 1, 0)}, "first_map": {"web": WEB, "other": PAIR},
        "led_hues": {"web": WEB, "other": PAIR, "row": (0, 1, 0), "ring": RING, "hues": (3, 1)},
    },
    "tight": {
        "loose_ties": {"web": WEB}, "is_tight": {"web": WEB}, "tight_part": {"web": WEB}, "by_shortest": {"many": 3},
    },
    "texts": {
        "web_shown": {"web": WEB}, "web_read": {"text": "3: 0-1"}, "ring_shown": {"ring": RING},
        "ring_read": {"text": "5/2"},
    },
}


def every_function():
    for module, rows in INTERFACE.items():
        for name, sound in rows.items():
            yield getattr(importlib.import_module("ringhues." + module), name), sound


def some_webs():
    yield from [web for many in (1, 2, 3, 4) for web in all_webs(many)]
    yield from [FIVE, round_web(6), round_web(7), whole_web(5)]
    yield from list(drawn_webs(5, 10)) + list(drawn_webs(6, 10)) + list(drawn_webs(7, 6)) + list(drawn_webs(8, 6))


class InterfaceTest(Checks):
    def test_names_and_arguments(self):
        for call, sound in every_function():
            arguments = inspect.signature(call).parameters.values()
            self.assertEqual([argument.name for argument in arguments], list(sound), call)
            self.assertTrue(all(argument.default is argument.empty for argument in arguments), call)
            self.takes(call, " ".join(sound), *sound.values())

    def test_the_desk(self):
        self.assertEqual(list(inspect.signature(Desk).parameters), [])
        self.assertEqual(list(inspect.signature(Desk().say).parameters), ["row"])

    def test_the_same_answers_whatever_was_asked_in_between(self):
        answers = [repr(call(**copy.deepcopy(sound))) for call, sound in every_function()]
        for call, sound in every_function():
            for thing in ODD[::5]:
                for name in sound:
                    self.ask_oddly(call, {**sound, name: thing})
        again = [repr(call(**copy.deepcopy(sound))) for call, sound in reversed(list(every_function()))]
        self.assertEqual(answers, again[::-1])

    def ask_oddly(self, call, named):
        """Whatever may come of it, nothing that is handed in is changed."""
        before = repr(named)
        try:
            call(**named)
        except (TypeError, ValueError, IndexError, KeyError):
            pass
        self.assertEqual(repr(named), before)

    def test_no_web_goes_ahead_of_all_else(self):
        for call, sound in every_function():
            names = list(sound)
            if names[0] == "web" or names[:2] == ["one", "other"] and call.__module__ == "ringhues.changes":
                for thing in (None, True, (0, ()), (3, ((1, 0),)), [3, ()], "3:"):
                    self.no_web(-1, call, **{**dict.fromkeys(names), names[0]: thing})
                    self.no_web(-1, call, **{**sound, names[0]: thing})

    def test_lists_told_are_the_askers_own(self):
        lists = 0
        for call, sound in every_function():
            told = call(**sound)
            if isinstance(told, list):
                kept = copy.deepcopy(told)
                told.reverse()
                told.append(None)
                self.assertEqual(call(**sound), kept, call)
                lists += 1
        self.assertEqual(lists, 7)

    def test_each_refusal_is_made_somewhere(self):
        kinds = {kind for kind in vars(errors).values() if isinstance(kind, type) and kind is not errors.HueError}
        raised = {
            type(self.refused(kind, call, *things)) for kind, call, things in (
                (errors.NoWeb, shortest.shortest, (None,)), (errors.NoRing, rings.steps_apart, (None, 0, 0)),
                (errors.NoHues, rings.steps_apart, (RING, 0, 5)), (errors.NoPlace, webs.ends_of, (WEB, 3)),
                (errors.NoArrows, arrows.turned_arrows, (WEB, (1,))), (errors.NoPaper, arrows.along, (WEB, (1, 1), (0, 1))),
                (errors.NoMap, maps.led_hues, (WEB, PAIR, (0, 0, 0), RING, (0, 2))),
                (errors.Apart, changes.untied, (WEB, 0, 2)), (errors.NoRow, Desk().say, ("x",)),
                (errors.NoText, texts.ring_read, ("x",)), (errors.TooGreat, changes.topped, ((8, ()),)),
            )
        }
        self.assertEqual(raised, kinds)


class RingsFoundTest(Checks):
    """The shortest ring, by each way that the document has for it."""

    def ways(self, web):
        candidates = shortest.plain_rings(web[0])
        yield next(ring for ring in candidates if shortest.has_room(web, ring))
        yield next(ring for ring in candidates if found.first_hues(web, ring) is not None)
        yield next(ring for ring in candidates if nones.none_for(web, ring, (None,) * web[0]) is None)
        yield next(ring for ring in candidates if maps.first_map(web, ringwebs.ring_web(ring)) is not None)
        yield texts.ring_read(self.desk_of(web).say("shortest"))
        yield shortest.shortest(needs.needed_part(web))
        yield shortest.shortest(tight.tight_part(web))
        yield shortest.shortest(texts.web_read(texts.web_shown(web)))
        if web[0] <= 6:
            yield next(ring for ring in candidates if counts.hues_many(web, ring) > 0)
            yield next(ring for ring in candidates if counts.all_fixed(web, ring))
            yield next(ring for ring in candidates if folds.folded_many(web, ring) > 0)
        if len(web[1]) <= 10:
            yield bounds.bound_of(web, bounds.best_arrows(web))
        if web[1]:
            yield next(ring for ring in candidates if judges.always_full(web, ring))
            yield self.judged_down(web)
        if web[0] < 8:
            yield shortest.shortest(changes.twinned(web, 0))
            yield shortest.shortest(changes.put_beside(web, (1, ())))

    def desk_of(self, web):
        desk = Desk()
        desk.say("web " + texts.web_shown(web))
        return desk

    def judged_down(self, web):
        """From a spot of its own for each place down to where hues have a full round."""
        ring, row = (24, 1), tuple(range(web[0]))
        verdict = judges.judged(web, ring, row)
        while verdict[0] == "shorter":
            self.assertLess(length(verdict[1]), length(ring))
            ring, row = verdict[1:]
            verdict = judges.judged(web, ring, row)
        return ring

    def test_all_the_same(self):
        for web in some_webs():
            ring = shortest.shortest(web)
            for at, other in enumerate(self.ways(web)):
                self.assertEqual(other, ring, (web, at))

    def test_the_fewest_plain(self):
        for web in some_webs():
            fewest = plain.fewest_plain(web)
            ring = shortest.shortest(web)
            self.assertEqual(fewest, -(-ring[0] // ring[1]))
            self.assertEqual(len(crowds.lots_of(web, plain.first_plain(web))), fewest)
            self.assertEqual(self.desk_of(web).say("fewest"), str(fewest))
            if web[0] < 8:
                self.assertEqual(shortest.shortest(changes.topped(web)), (fewest + 1, 1))

    def test_papers_that_no_ring_is_shorter(self):
        for web in some_webs():
            least = length(shortest.shortest(web))
            papers = [("crowd", crowds.greatest_crowd(web))] + [("odd", row) for row in arrows.all_rounds(web)[:40]]
            for paper in papers:
                bound = crowds.ring_bound(web, paper)
                if bound is not None:
                    self.assertLessEqual(length(bound), least)


class HandedOnTest(Checks):
    """What one function tells is handed in to another one."""

    def test_hues(self):
        for web in some_webs():
            ring = shortest.shortest(web)
            row = shortest.shortest_hues(web)
            self.assertEqual(row, found.first_hues(web, ring))
            self.says(True, hues.hues_hold, web, ring, row)
            self.assertEqual(found.first_known(web, ring, row), row)
            self.assertIsNone(hues.first_clash(web, ring, row))
            mirrored = hues.mirrored_hues(web, ring, hues.turned_on(web, ring, row, 3))
            self.says(True, hues.hues_hold, web, ring, mirrored)
            if web[0] <= 6:
                self.assertEqual(folds.first_folded(web, ring, mirrored), folds.first_folded(web, ring, row))
                self.assertIn(folds.first_folded(web, ring, row), counts.all_fixed(web, ring))
            on_long_ring = moves.moved_hues(web, ring, row, (24, 1))
            self.says(True, hues.hues_hold, web, (24, 1), on_long_ring)
            if web[1]:
                self.rounds_of(web, ring, row)

    def rounds_of(self, web, ring, row):
        word, full = judges.judged(web, ring, row)
        self.assertEqual((word, full), ("round", rounds.full_rounds(web, ring, row)[0]))
        self.says(True, rounds.full_holds, web, ring, row, full)
        self.assertEqual(rounds.laps_of(web, ring, row, full) * ring[0], len(full) * ring[1])
        for place in rounds.may_move(web, ring, row):
            self.says(True, hues.hues_hold, web, ring, rounds.moved_on(web, ring, row, place))
        pointing = bounds.arrows_by(web, ring, row)
        self.says(True, arrows.are_arrows, web, pointing)
        bound = bounds.bound_of(web, arrows.turned_arrows(web, pointing))
        self.assertEqual(bound, ring)
        self.says(True, hues.hues_hold, web, bound, bounds.hues_by(web, pointing))

    def test_plain_hues(self):
        for web in some_webs():
            numbers = plain.plain_by(web, shortest.shortest(web), shortest.shortest_hues(web))
            self.says(True, plain.plain_hold, web, numbers)
            ring, row = plain.ring_by(web, numbers)
            self.says(True, rings.is_ring, ring)
            self.says(True, hues.hues_hold, web, ring, row)
            for lot in crowds.lots_of(web, numbers):
                self.assertLessEqual(len(lot), len(crowds.greatest_lot(web)))

    def test_hues_one_behind_another(self):
        for web in list(all_webs(3)) + [FIVE]:
            for ring in ((3, 1), (5, 2), (6, 2)):
                row, rows = found.first_hues(web, ring), []
                while row is not None:
                    rows.append(row)
                    row = found.next_hues(web, ring, row)
                self.assertEqual(len(rows), counts.hues_many(web, ring))
                self.assertEqual([row for row in rows if row[0] == 0], counts.all_fixed(web, ring))
                lots = {folds.first_folded(web, ring, row) for row in rows}
                self.assertEqual(len(lots), folds.folded_many(web, ring))

    def test_maps_and_rings(self):
        small = rings_to(6)
        for one, other in itertools.product(small[::2], small[::3]):
            row = maps.first_map(ringwebs.ring_web(one), ringwebs.ring_web(other))
            self.assertIs(row is not None, ringwebs.leads(one, other))
            for web in (WEB, FIVE, whole_web(3)):
                here = found.first_hues(web, one)
                if row is not None and here is not None:
                    self.says(True, maps.map_holds, web, ringwebs.ring_web(one), here)
                    led = maps.led_hues(web, ringwebs.ring_web(one), here, other, row)
                    self.says(True, hues.hues_hold, web, other, led)

    def test_papers(self):
        for web in list(all_webs(3)) + [FIVE, whole_web(4)]:
            for ring in rings_to(6):
                known = (None,) * web[0]
                paper = nones.none_for(web, ring, known)
                self.assertIs(paper is None, shortest.has_room(web, ring))
                self.says(paper is not None, nones.none_holds, web, ring, known, paper)

    def test_by_shortest(self):
        for many in (1, 2, 3, 4):
            for ring, number in tight.by_shortest(many):
                webs_of_it = [web for web in all_webs(many) if shortest.shortest(web) == ring]
                self.assertEqual(len(webs_of_it), number)

    def test_a_desk_and_the_functions(self):
        desk = Desk()
        web = (1, ())
        for row, made in (
            ("top", changes.topped(web)), ("twin 0", (3, ((0, 1), (1, 2)))), ("tie 0 2", whole_web(3)),
            ("top", whole_web(4)), ("cut 0 3", changes.untied(whole_web(4), 3, 0)), ("lose 0", whole_web(3)),
        ):
            self.assertEqual(desk.say(row), "ok")
            self.assertEqual(texts.web_read(desk.say("shown")), made)
            ring = texts.ring_read(desk.say("shortest"))
            self.assertEqual(ring, shortest.shortest(made))
            spots = tuple(int(word) for word in desk.say("first " + texts.ring_shown(ring)).split())
            self.says(True, hues.hues_hold, made, ring, spots)
