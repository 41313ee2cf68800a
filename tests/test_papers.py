"""[F1] to [F4], and [A2] (a) and (g): papers, what must go so that a web is flat, and webs that can be unwoven."""

import random
import unittest

from flatbonds.errors import TooMany
from flatbonds.layings import all_layings, at_face, how_many, lay
from flatbonds.papers import (
    bare, fewest_out, forbidden, is_outer, is_two_road, outer_paper, paper_holds, two_road_paper, unwoven, unwoven_holds
)
from flatbonds.webs import darts_at, pieces, taken_out
import plain
from samples import (
    BARE, F, H, LINE, LOOP, ODD_VALUES, P, PETERSEN, R, T, W, beside_one_another, bundle, cubic_web, drawn_order,
    fan_of_paths, far_webs, flat_web, full, path, put_together, random_web, ring, small_blocks, small_webs,
    tied_on, wheel, with_loops, with_spots
)

FIVE = ("five", (0, 1, 2, 3, 4), tuple((tie,) for tie in range(10)))
SIX = ("six", (0, 1, 2, 3, 4, 5), tuple((tie,) for tie in range(9)))
FOUR = ("four", (0, 1, 2, 3), tuple((tie,) for tie in range(6)))
TWO = ("two", (0, 2, 1, 3, 4), ((0,), (2,), (4,), (1,), (3,), (5,)))
SIZES = {"five": (5, 10), "six": (6, 9), "four": (4, 6), "two": (5, 6)}


def is_flat_web(web):
    return lay(web) is not None


def subdivided(rng, web, ties):
    """The web with spots put on ties till it has so many ties, in a drawn order."""
    spots, ends = web[0], list(web[1])
    while len(ends) < ties:
        a, b = ends.pop(rng.randrange(len(ends)))
        ends.extend([(a, spots), (b, spots)])
        spots += 1
    return drawn_order(rng, (spots, tuple(ends)))


def all_kinds(seed):
    """Webs with and without papers of all kinds."""
    rng = random.Random(seed)
    webs = small_webs(seed, 150, 8, 14) + small_blocks(seed, 80, 8, 13)
    webs += [random_web(rng, rng.randint(5, 9), rng.randint(9, 22)) for _ in range(60)]
    webs += [subdivided(rng, web, rng.randint(10, 40)) for web in (F, T, W, PETERSEN, fan_of_paths(3, 2)) * 6]
    webs += [put_together(rng, *rng.choices([W, F, T, ring(4), bundle(3), fan_of_paths(3, 2)], k=rng.randint(2, 4)))
             for _ in range(40)]
    webs += [cubic_web(rng, spots) for spots in (8, 12, 20, 30)] + [tied_on(path(5), F, 2), with_spots(T, 9)]
    return webs + list(far_webs().values())


def paper_by_words(web, value):
    """Whether value, a triple of a kind, corners and paths, is a paper, by the words of the document."""
    kind, corners, paths = value
    first = {"five": 5, "four": 4, "six": 3, "two": 2}[kind]
    if list(corners) != sorted(corners[:first]) + sorted(corners[first:]) or len(set(corners)) != SIZES[kind][0]:
        return False
    if kind == "six" and min(corners) != corners[0]:
        return False
    places = range(len(corners))
    pairs = [(a, b) for a in places for b in places if a < b and (first > 3 or a < first <= b)]
    if len(paths) != len(pairs):
        return False
    seen = []
    for (a, b), ties in zip(pairs, paths):
        known = [between for row, between in plain.roads(web, corners[a], corners[b]) if row == ties]
        if not known or set(known[0]) & set(corners):
            return False
        seen.extend(known[0])
    return len(seen) == len(set(seen))


class PaperHoldsTest(unittest.TestCase):
    def test_papers(self):
        for web, paper in ((F, FIVE), (T, SIX), (W, FOUR), (H, TWO)):
            self.assertIs(paper_holds(web, paper), True)
            self.assertTrue(paper_by_words(web, paper))
            for other in (F, T, W, H, P, R, LOOP, BARE):
                self.assertIs(paper_holds(other, paper), other == web, (other, paper))

    def test_papers_within_greater_webs(self):
        self.assertIs(paper_holds(F, FOUR[:1] + ((0, 1, 2, 3), ((0,), (1,), (2,), (4,), (5,), (7,)))), True)
        self.assertIs(paper_holds(F, ("four", (0, 1, 2, 3), ((0,), (1,), (3, 9), (4,), (5,), (7,)))), True)
        self.assertIs(paper_holds(F, ("four", (0, 1, 2, 3), ((0,), (1,), (9, 3), (4,), (5,), (7,)))), False)
        self.assertIs(paper_holds(F, ("four", (0, 1, 2, 3), ((0,), (1,), (3, 8, 7), (4,), (5,), (7,)))), False)
        self.assertIs(paper_holds(F, ("four", (0, 1, 2, 3), ((0,), (1,), (3, 6, 4), (4,), (5,), (7,)))), False)
        for way in [(2,), (3, 12), (3, 7, 6), (3, 13, 14), (4, 13, 12), (4, 14, 12), (12, 3), (3,), (3, 12, 12)]:
            paper = ("four", (0, 1, 2, 3), ((0,), (1,), way, (5,), (6,), (9,)))
            self.assertEqual(paper_holds(full(6), paper), paper_by_words(full(6), paper), way)

    def test_corners(self):
        bad = [(0, 1, 2, 4, 3), (1, 0, 2, 3, 4), (0, 1, 2, 3, 3), (0, 1, 2, 3), (0, 1, 2, 3, 5), (0, 1, 2, 3, -1), (),
               [0, 1, 2, 3, 4], (False, True, 2, 3, 4), (0, 1, 2, 3, "4"), (0, 1, 2, 3, None), (0, 1, 2, 3, 10 ** 399),
               None, "01234", {0: 1}, (0, 1, 2, 3, (4,)), 5]
        for corners in bad:
            self.assertIs(paper_holds(F, ("five", corners, FIVE[2])), False, corners)
        paths = ((0,), (3,), (6,), (1,), (4,), (7,), (2,), (5,), (8,))
        self.assertIs(paper_holds(T, ("six", (3, 4, 5, 0, 1, 2), paths)), False)
        self.assertIs(paper_holds(H, ("two", (0, 2, 3, 1, 4), ((2,), (0,), (4,), (3,), (1,), (5,)))), False)
        self.assertIs(paper_holds(H, ("two", (2, 0, 1, 3, 4), ((1,), (3,), (5,), (0,), (2,), (4,)))), False)

    def test_paths(self):
        ties = list(FIVE[2])
        bad = [ties, tuple(ties[:9]), tuple(ties + [(0,)]), tuple(ties[::-1]), tuple([(1,)] + ties[1:]), (), None, {},
               tuple([()] + ties[1:]), tuple([[0]] + ties[1:]), tuple([(False,)] + ties[1:]), tuple([None] + ties[1:]),
               tuple([(10,)] + ties[1:]), tuple([(-10,)] + ties[1:]), tuple([(10 ** 399,)] + ties[1:]),
               tuple([0] + ties[1:]), tuple([("0",)] + ties[1:]), tuple([(0, 0, 0)] + ties[1:]),
               tuple([((0,),)] + ties[1:]), tuple([{0: 1}] + ties[1:]), tuple([(1, 4)] + ties[1:]), "0123456789"]
        for paths in bad:
            self.assertIs(paper_holds(F, ("five", FIVE[1], paths)), False, paths)
        loop = with_loops(F, 1)
        self.assertIs(paper_holds(loop, ("five", FIVE[1], ((10, 0),) + FIVE[2][1:])), False)
        self.assertIs(paper_holds(loop, FIVE), True)

    def test_paths_that_meet(self):
        # The paths from 0 to 2 and from 1 to 3 both lead by the spot 4; apart from that all is in order.
        web = (5, ((0, 1), (0, 4), (0, 3), (1, 2), (1, 4), (2, 3), (2, 4), (3, 4)))
        paper = ("four", (0, 1, 2, 3), ((0,), (1, 6), (2,), (3,), (4, 7), (5,)))
        self.assertIs(paper_holds(web, paper), False)
        apart = (6, ((0, 1), (0, 4), (0, 3), (1, 2), (1, 5), (2, 3), (2, 4), (3, 5)))
        self.assertIs(paper_holds(apart, paper), True)
        beside = (4, W[1] + ((0, 1),))
        self.assertIs(paper_holds(beside, ("four", (0, 1, 2, 3), ((6,),) + FOUR[2][1:])), True)

    def test_kinds_and_triples(self):
        for value in [FIVE[:2], FIVE + (0,), list(FIVE), ("four",) + FIVE[1:], ("", ) + FIVE[1:], (5,) + FIVE[1:],
                      (None,) + FIVE[1:], ((),) + FIVE[1:], ([],) + FIVE[1:], ({},) + FIVE[1:], (["five"],) + FIVE[1:],
                      (True,) + FIVE[1:], ("FIVE",) + FIVE[1:], {"five": 1}, None]:
            self.assertIs(paper_holds(F, value), False, value)
        for web in (F, T, W, H, LOOP, BARE):
            for value in ODD_VALUES:
                self.assertIs(paper_holds(web, value), False)
                for at in range(3):
                    self.assertIs(paper_holds(web, FIVE[:at] + (value,) + FIVE[at + 1:]), False)

    def test_changed_papers(self):
        rng = random.Random(120)
        held = 0
        for web in (F, T, W, H, full(6), wheel(5), PETERSEN):
            for paper in (forbidden(web), outer_paper(web), two_road_paper(web)):
                for _ in range(60 if paper is not None else 0):
                    kind, corners, paths = paper
                    corners, paths = list(corners), list(paths)
                    if rng.random() < 0.3:
                        corners[rng.randrange(len(corners))] = rng.randrange(web[0])
                    at = rng.randrange(len(paths))
                    paths[at] = tuple(rng.randrange(len(web[1])) for _ in range(rng.randint(0, 3)))
                    if rng.random() < 0.5:
                        paths[at] = rng.choice(paper[2])
                    value = (kind, tuple(corners), tuple(paths))
                    held += paper_by_words(web, value)
                    self.assertIs(paper_holds(web, value), paper_by_words(web, value))
        self.assertGreater(held, 20)


class ForbiddenTest(unittest.TestCase):
    def test_a_paper_or_a_laying(self):
        kinds = {"five": 0, "six": 0}
        for web in all_kinds(121):
            paper = forbidden(web)
            self.assertEqual(paper is None, is_flat_web(web))
            if paper is not None:
                self.assertIs(paper_holds(web, paper), True)
                kinds[paper[0]] += 1
        self.assertGreater(min(kinds.values()), 10)

    def test_known_ones(self):
        self.assertEqual([forbidden(F), forbidden(T)], [FIVE, SIX])
        self.assertEqual([forbidden(web) for web in (W, BARE, LOOP, LINE, (60, ()), bundle(60))], [None] * 6)
        self.assertEqual(forbidden(PETERSEN)[0], "six")


class BareTest(unittest.TestCase):
    def test_tie_after_tie(self):
        for web in all_kinds(122):
            self.assertEqual(bare(web), plain.bare(web, is_flat_web))

    def test_its_ties_are_those_of_a_paper(self):
        for web in all_kinds(123):
            pick = bare(web)
            if pick is not None:
                paper = forbidden((web[0], tuple(web[1][tie] for tie in pick)))
                self.assertEqual(sorted(tie for way in paper[2] for tie in way), list(range(len(pick))))

    def test_known_ones(self):
        self.assertEqual([bare(F), bare(T), bare(W), bare(BARE)], [tuple(range(10)), tuple(range(9)), None, None])
        self.assertEqual(bare((5, F[1] + F[1])), tuple(range(10)))
        self.assertEqual(bare((5, ((0, 0),) + F[1] + ((1, 1),))), tuple(range(1, 11)))


class FewestOutTest(unittest.TestCase):
    def check_fewest(self, web, counts):
        """Looks at the web, and counts it by the size of the pick."""
        known = plain.fewest_out(web, is_flat_web, 2)
        size = None if known is None else len(known)
        counts[size] = counts.get(size, 0) + 1
        if known is None:
            with self.assertRaises(TooMany) as caught:
                fewest_out(web)
            self.assertEqual(caught.exception.limit, 2)
        else:
            self.assertEqual(fewest_out(web), known)

    def test_all_picks(self):
        rng = random.Random(124)
        webs = [random_web(rng, rng.randint(5, 8), rng.randint(10, 20), False) for _ in range(120)]
        webs += [drawn_order(rng, web) for web in (F, T, PETERSEN, full(6), (5, F[1] + F[1][:3]), tied_on(F, T))
                 for _ in range(4)]
        webs += [put_together(rng, *rng.choices([F, T, ring(3), bundle(3), W], k=rng.randint(2, 3))) for _ in range(40)]
        webs += [subdivided(rng, web, rng.randint(10, 24)) for web in (F, T, PETERSEN, tied_on(F, T)) * 3]
        webs += [full(7), tied_on(tied_on(F, F), T), beside_one_another(T, T, T), (5, F[1] * 3), (6, T[1] * 3)]
        webs += [subdivided(rng, web, 30) for web in (full(7), tied_on(tied_on(T, F), T))]
        counts = {}
        for web in webs:
            self.check_fewest(web, counts)
        for _ in range(40):
            # Ties that stand once, twice or three times, some of them with a spot on them.
            spots, ties = rng.choice((F, T))
            many = rng.choice(((1, 2, 3), (2, 3), (2, 3, 3, 3)))
            ends = [pair for pair in ties for _ in range(rng.choice(many))]
            if len(ends) < 24:
                self.check_fewest(subdivided(rng, (spots, tuple(ends)), len(ends) + rng.randint(0, 3)), counts)
        self.assertEqual(set(counts), {0, 1, 2, None})
        self.assertGreater(min(counts.values()), 10, counts)

    def test_none_one_two_and_more(self):
        self.assertEqual([fewest_out(BARE), fewest_out(W), fewest_out(F), fewest_out(T)], [(), (), (0,), (0,)])
        self.assertEqual(fewest_out((5, F[1] + ((0, 1),))), (1,))
        self.assertEqual(fewest_out((5, F[1] + F[1])), (0, 10))
        self.assertEqual(fewest_out(tied_on(F, F)), (0, 10))
        self.assertEqual(fewest_out(beside_one_another(T, F)), (0, 9))
        for web in (full(6), full(7), full(11), (5, F[1] * 3), tied_on(tied_on(F, F), T), beside_one_another(T, T, T)):
            if plain.fewest_out(web, is_flat_web, 2) is None:
                with self.assertRaises(TooMany) as caught:
                    fewest_out(web)
                self.assertEqual(caught.exception.limit, 2)
        with self.assertRaises(TooMany):
            fewest_out((5, F[1] * 3))
        with self.assertRaises(TooMany):
            fewest_out(beside_one_another(T, T, T))

    def test_far_webs(self):
        rng = random.Random(125)
        for _ in range(30):
            spots, ties = flat_web(rng, rng.randint(20, 50), 54)
            web = drawn_order(rng, (spots, ties + random_web(rng, spots, rng.randint(1, 2), False)[1]))
            pick = fewest_out(web)
            self.assertTrue(is_flat_web(taken_out(web, pick)))
            self.assertLessEqual(len(pick), 2)
            if len(pick) == 2:
                self.assertFalse(any(is_flat_web(taken_out(web, (tie,))) for tie in range(len(web[1]))))
                for first in range(pick[0] + 1):
                    for last in range(first + 1, len(web[1])):
                        if (first, last) < pick:
                            self.assertFalse(is_flat_web(taken_out(web, (first, last))))
            elif pick:
                self.assertFalse(any(is_flat_web(taken_out(web, (tie,))) for tie in range(pick[0])))
        web = beside_one_another(subdivided(rng, F, 30), subdivided(rng, T, 30))
        self.assertEqual(len(fewest_out(web)), 2)


def is_outer_by_faces(web):
    """By the words of the document, of a web with few flat layings."""
    for laying in all_layings(web):
        if all(at_face(web, laying, piece) is not None for piece in pieces(web)
               if len(piece) > 1 or darts_at(web, piece[0])):
            return True
    return False


class OuterTest(unittest.TestCase):
    def test_by_faces(self):
        tried = 0
        for web in small_webs(126, 250, 7, 10) + small_blocks(126, 120, 7, 10):
            if how_many(web) <= 1000:
                tried += 1
                self.assertIs(is_outer(web), is_outer_by_faces(web))
        self.assertGreater(tried, 250)

    def test_paper_or_outer(self):
        kinds = {"four": 0, "two": 0, None: 0}
        for web in all_kinds(127):
            paper = outer_paper(web)
            self.assertIs(is_outer(web), paper is None)
            kinds[paper and paper[0]] += 1
            if paper is not None:
                self.assertIs(paper_holds(web, paper), True)
        self.assertGreater(min(kinds.values()), 20)

    def test_by_minors(self):
        for web in small_webs(128, 150, 7, 12) + small_blocks(128, 80, 7, 11):
            self.assertIs(is_outer(web), not plain.has_minor(web, [plain.FOUR, plain.TWO]))

    def test_known_ones(self):
        self.assertEqual([is_outer(web) for web in (BARE, LOOP, LINE, P, R, ring(60), bundle(60), path(60), (60, ()))],
                         [True] * 9)
        self.assertEqual([is_outer(web) for web in (W, H, F, T, wheel(30), fan_of_paths(3, 20))], [False] * 6)
        self.assertEqual([outer_paper(H)[0], outer_paper(W)[0], outer_paper(R)], ["two", "four", None])
        self.assertIs(is_outer(fan_of_paths(2, 30)), True)
        with_chord = (fan_of_paths(2, 9)[0], fan_of_paths(2, 9)[1] + ((0, 1),))
        self.assertIs(is_outer(with_chord), True)


class TwoRoadTest(unittest.TestCase):
    def test_by_minors(self):
        for web in small_webs(129, 150, 7, 12) + small_blocks(129, 80, 7, 11):
            self.assertIs(is_two_road(web), not plain.has_minor(web, [plain.FOUR]))

    def test_a_paper_or_steps(self):
        counts = [0, 0]
        for web in all_kinds(130):
            paper, steps = two_road_paper(web), unwoven(web)
            self.assertIs(is_two_road(web), paper is None)
            self.assertEqual(steps is None, paper is not None)
            counts[paper is None] += 1
            if paper is not None:
                self.assertEqual([paper[0], paper_holds(web, paper)], ["four", True])
            else:
                self.assertEqual([len(steps), unwoven_holds(web, steps)], [len(web[1]), True])
        self.assertGreater(min(counts), 50)

    def test_known_ones(self):
        for web in (BARE, LOOP, LINE, P, H, R, ring(60), bundle(60), path(60), fan_of_paths(30, 2)):
            self.assertEqual([is_two_road(web), two_road_paper(web)], [True, None])
        for web in (W, F, T, wheel(3), wheel(30), PETERSEN, full(11)):
            self.assertEqual([is_two_road(web), unwoven(web)], [False, None])
        rng = random.Random(131)
        for _ in range(30):
            web = put_together(rng, *rng.choices([ring(3), ring(5), bundle(3), bundle(5)], k=10))
            self.assertEqual([is_two_road(web), unwoven_holds(web, unwoven(web))], [True, True])


def ends_behind(web, steps):
    """The ends of the ties that are left behind the steps, by the words of the document; None if one can't be done."""
    ends = dict(enumerate(web[1]))
    for word, tie in steps:
        if tie not in ends:
            return None
        a, b = ends.pop(tie)
        same = [other for other in ends if set(ends[other]) == {a, b}]
        others = [[other for other in ends if spot in ends[other]] for spot in (a, b)]
        fits = {
            "loop": a == b,
            "end": a != b and not all(others),
            "beside": a != b and len(same) > 0,
            "through": a != b and any(len(row) == 1 and row[0] not in same and len(set(ends[row[0]])) == 2
                                      for row in others),
        }
        if not fits[word]:
            return None
        if word == "through":
            ends = {other: tuple(a if spot == b else spot for spot in pair) for other, pair in ends.items()}
    return ends


def unwoven_by_words(web, steps):
    return ends_behind(web, steps) == {}


class UnwovenHoldsTest(unittest.TestCase):
    def test_drawn_steps(self):
        rng = random.Random(132)
        words = ("loop", "end", "beside", "through")
        counts = [0, 0]
        for web in small_webs(132, 200, 5, 5):
            for _ in range(6):
                order = rng.sample(range(len(web[1])), len(web[1]))
                steps = []
                for tie in order:
                    # A word that can be said next, if there is one, so that whole rows hold now and then.
                    told = [(word, tie) for word in words if ends_behind(web, steps + [(word, tie)]) is not None]
                    steps.append(rng.choice(told) if told and rng.random() < 0.95 else (rng.choice(words), tie))
                known = unwoven_by_words(web, steps)
                counts[known] += 1
                self.assertIs(unwoven_holds(web, tuple(steps)), known, (web, steps))
        self.assertGreater(min(counts), 100)

    def test_each_word(self):
        self.assertEqual([unwoven_holds(LOOP, (("loop", 0),)), unwoven_holds(LOOP, (("end", 0),)),
                          unwoven_holds(LOOP, (("beside", 0),)), unwoven_holds(LOOP, (("through", 0),))],
                         [True, False, False, False])
        self.assertEqual([unwoven_holds(LINE, (("end", 0),)), unwoven_holds(LINE, (("loop", 0),)),
                          unwoven_holds(LINE, (("through", 0),)), unwoven_holds(LINE, (("beside", 0),))],
                         [True, False, False, False])
        self.assertIs(unwoven_holds(bundle(2), (("beside", 1), ("end", 0))), True)
        self.assertIs(unwoven_holds(bundle(2), (("end", 1), ("end", 0))), False)
        self.assertIs(unwoven_holds(bundle(2), (("through", 1), ("loop", 0))), False)
        self.assertIs(unwoven_holds(path(3), (("through", 0), ("end", 1))), True)
        self.assertIs(unwoven_holds(path(3), (("end", 1), ("end", 0))), True)
        for word in ("Through", "", "through ", "thro"):
            self.assertIs(unwoven_holds(path(3), ((word, 0), ("end", 1))), False)
        self.assertIs(unwoven_holds((2, ((0, 0), (0, 1))), (("through", 1), ("loop", 0))), False)
        self.assertIs(unwoven_holds((2, ((0, 0), (0, 1))), (("end", 1), ("loop", 0))), True)
        self.assertIs(unwoven_holds((2, ((0, 0), (0, 0))), (("beside", 1), ("loop", 0))), False)

    def test_all_ties_go_each_once(self):
        steps = unwoven(H)
        for value in (steps[:-1], steps + steps[-1:], steps[1:], steps[::-1], (), steps + (("loop", 0),)):
            self.assertIs(unwoven_holds(H, value), unwoven_by_words(H, value))
        self.assertEqual([unwoven_holds(BARE, ()), unwoven_holds((60, ()), ()), unwoven(BARE)], [True, True, ()])
        self.assertIs(unwoven_holds(W, ()), False)

    def test_odd_values(self):
        steps = unwoven(H)
        for value in ODD_VALUES + [list(steps), tuple(list(step) for step in steps), dict(steps)]:
            if value != ():
                for web in (H, LOOP, LINE, BARE):
                    self.assertIs(unwoven_holds(web, value), False)
        for step in [None, (), ("end",), ("end", 0, 0), ["end", 0], ("end", False), ("end", -1), ("end", 1), ("End", 0),
                     ("end", "0"), ("end", None), ("end", (0,)), ("end", [0]), ("end", 10 ** 399), (None, 0), ((), 0),
                     ([], 0), ({}, 0), (0, "end"), "end", {"end": 0}, ("", 0), (True, 0)]:
            self.assertIs(unwoven_holds(LINE, (step,)), False, step)
            self.assertIs(unwoven_holds(LINE, (("end", 0), step)), False, step)
        self.assertIs(unwoven_holds(LOOP, (("loop", False),)), False)


if __name__ == "__main__":
    unittest.main()
