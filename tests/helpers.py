"""What the tests share: odd things, small webs and rings, and looking twice."""

import copy
import fractions
import functools
import itertools
import random
import unittest

from ringhues.errors import HueError, NoWeb


def nested(make, deep):
    thing = make(0)
    for _ in range(deep - 1):
        thing = make(thing)
    return thing


ODD = [
    None, True, False, 0, 1, 2, 7, -1, 24, 10 ** 99, -(10 ** 99) + 1,
    "", " ", "web", "0", "end", "(1, ())", "~",
    [], (), {}, [0], (0,), (True,), (None,), (None, None), [None], ["end", 0], {"a": 1}, {0: 0, 1: ()},
    {(0, 1): [None]}, (0, 1), [0, 1], (1, 2), ("a", "b"), ([], {}), ((), ()), [(0, 1)], ((0, 1),), (0, 1, 2),
    nested(lambda thing: [thing], 20),
    nested(lambda thing: (thing,), 20),
    nested(lambda thing: {"in": thing}, 20),
    nested(lambda thing: (1, thing), 20),
    nested(lambda thing: ("case", 0, (thing,)), 10),
]

# What is no web, of each kind, beside odd things.
NO_WEBS = ODD + [
    (0, ()), (9, ()), (True, ()), (False, ()), (None, ()), ("1", ()), ((1,), ()), (-1, ()), (10 ** 99, ()),
    [1, ()], (1, []), (1, {}), (1, None), (1, 0), (1, ""), (1,), (1, (), ()),
    (3, [(0, 1)]), (3, ([0, 1],)), [3, ((0, 1),)], (3, "01"), (3, (None,)), (3, ("01",)), (3, ({},)), (3, (0, 1)),
    (3, ((0, 2), (0, 1))), (3, ((0, 1), (0, 1))), (3, ((1, 0),)), (3, ((1, 1),)), (3, ((0, 3),)), (3, ((-1, 0),)),
    (3, ((0, 1), (0, 2), (0, 3))), (3, ((0, True),)), (3, ((False, 1),)), (3, ((0, 1, 2),)), (3, ((0,),)), (3, ((),)),
    (3, (("0", "1"),)), (3, ((0, None),)), (3, ((0, [1]),)), (3, ((0, 1), None)), (1, ((0, 1),)),
    (3, ((1, 2), (0, 1))), (3, (nested(lambda thing: (thing,), 18),)),
]

NO_RINGS = ODD + [
    (0, 0), (25, 1), (25, 25), (24, 25), (1, 0), (5, 6), (5, 0), (5, -1), (-5, 1), (-5, -5),
    (True, 1), (1, True), (True, True), (5, True), [5, 2], (5,), (5, 2, 1), ("5", "2"), ("5", 2), (5, None), (None, 2),
    ((5, 2),), ([5], 2), (5, [2]), "5/2", {5: 2}, (10 ** 99, 1), (5, 10 ** 99),
]

# What is no place of a web of three places.
NO_PLACES = [thing for thing in ODD if thing not in (0, 1, 2) or isinstance(thing, bool)] + [
    3, -1, True, False, "0", "", (0,), [0], None, 10 ** 99, -(10 ** 99),
]


def all_webs(many):
    pairs = list(itertools.combinations(range(many), 2))
    for picks in itertools.product((False, True), repeat=len(pairs)):
        yield (many, tuple(pair for pair, pick in zip(pairs, picks) if pick))


def rings_to(most):
    return [(k, d) for k in range(1, most + 1) for d in range(1, k + 1)]


def whole_web(many):
    return (many, tuple(itertools.combinations(range(many), 2)))


def round_web(many):
    return (many, tuple(sorted(tuple(sorted((i, (i + 1) % many))) for i in range(many))))


def drawn_webs(many, count):
    """Some webs of so many places, sparse and dense, the same ones each time."""
    draw = random.Random(many * 1000 + count)
    pairs = list(itertools.combinations(range(many), 2))
    for at in range(count):
        often = (at % 5 + 1) / 6
        yield (many, tuple(pair for pair in pairs if draw.random() < often))


def length(ring):
    return fractions.Fraction(*ring)


@functools.lru_cache(maxsize=None)
def plain_gap(k, one, other):
    """How far apart, by walking both ways: not as the program reckons it."""
    onward = next(n for n in range(k) if (one + n) % k == other)
    backward = next(n for n in range(k) if (one - n) % k == other)
    return min(onward, backward)


def plainly_hues(web, ring, row):
    return all(plain_gap(ring[0], row[i], row[j]) >= ring[1] for i, j in web[1])


def plain_search(web, ring):
    """All hues, as tuples rise, by going through all tuples."""
    return [row for row in itertools.product(range(ring[0]), repeat=web[0]) if plainly_hues(web, ring, row)]


def plain_first(web, ring, head=()):
    """The first hues, place by place, with nothing clever: for webs and rings where that is quick."""
    if len(head) == web[0]:
        return head
    near = [head[i] for i, j in web[1] if j == len(head)]
    for spot in range(ring[0]):
        if all(plain_gap(ring[0], spot, other) >= ring[1] for other in near):
            found = plain_first(web, ring, head + (spot,))
            if found is not None:
                return found
    return None


@functools.lru_cache(maxsize=None)
def plain_shortest(web):
    """The plain ring of the least length with room, by trying each ring with no more spots than places."""
    least = min(length(ring) for ring in rings_to(web[0]) if plain_first(web, ring) is not None)
    return (1, 1) if not web[1] else (least.numerator, least.denominator)


class Checks(unittest.TestCase):
    def refused(self, kind, call, *things, **named):
        """The refusal, of its very class; what was handed in stays as it is."""
        before = copy.deepcopy((things, named))
        with self.assertRaises(HueError) as caught:
            call(*things, **named)
        self.assertEqual(type(caught.exception), kind, (things, named))
        self.assertEqual(repr(before), repr((things, named)))
        return caught.exception

    def no_web(self, at, call, *things, **named):
        self.assertEqual(self.refused(NoWeb, call, *things, **named).at, at, (things, named))

    def told(self, call, *things, **named):
        """The answer, the same when asked twice; what was handed in stays as it is."""
        before = repr((things, named))
        first = call(*things, **named)
        again = call(*things, **named)
        self.assertEqual(repr(first), repr(again))
        self.assertEqual(before, repr((things, named)))
        return first

    def says(self, truth, call, *things, **named):
        self.assertIs(self.told(call, *things, **named), truth, (things, named))

    def takes(self, call, names, *sound):
        """The answer, the same by place and by name, whatever the order of the names."""
        names = names.split()
        self.assertEqual(len(names), len(sound))
        answer = self.told(call, *sound)
        named = list(zip(names, sound))
        for at in range(len(sound) + 1):
            mixed = call(*sound[:at], **dict(reversed(named[at:])))
            self.assertEqual(repr(mixed), repr(answer))
        return answer

    def in_order(self, call, sound, refusals):
        """Each argument is refused for what is none, whatever stands behind it, and not for what stands behind it."""
        for at, (kind, things) in enumerate(refusals):
            for thing in things:
                for behind in (sound[at + 1:], (None,) * len(sound[at + 1:]), ((thing,),) * len(sound[at + 1:])):
                    wrong = self.refused(kind, call, *sound[:at], thing, *behind)
                    if kind is NoWeb:
                        self.assertEqual(wrong.at, -1)
