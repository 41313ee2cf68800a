"""[A4] to [A6]: webs, picks, spots, darts, pieces, and what is made of webs."""

import random
import unittest

from flatbonds.webs import darts_at, drawn_in, is_pick, pieces, spots_of, taken_out, web_error, web_of
import plain
from samples import BARE, LOOP, ODD_VALUES, P, W, bundle, random_picks, ring, small_webs


class WebErrorTest(unittest.TestCase):
    def test_small_webs(self):
        for web in small_webs(1, 60):
            self.assertIsNone(web_error(web))
        self.assertIsNone(web_error(BARE))
        self.assertIsNone(web_error(LOOP))

    def test_the_bounds(self):
        self.assertIsNone(web_error((14, ((0, 13),) * 28)))
        self.assertIsNone(web_error((1, ((0, 0),) * 28)))
        self.assertEqual(web_error((15, ((0, 1),) * 28)), (None, "spots"))
        self.assertEqual(web_error((14, ((0, 1),) * 29)), (None, "ties"))
        self.assertEqual(web_error((15, ((0, 1),) * 29)), (None, "spots"))
        self.assertEqual(web_error((0, ())), (None, "spots"))
        self.assertEqual(web_error((-1, ())), (None, "spots"))

    def test_what_is_no_pair(self):
        for value in [None, True, 0, 7, "", "ab", [4, ()], {}, {0: 1}, (), (1,), (1, (), ()), [1, ()], ((1, ()),)]:
            self.assertEqual(web_error(value), (None, "web"))

    def test_wrong_spots(self):
        for spots in [None, True, False, "1", "", (1,), [1], {}, 0, -3, 15, 10 ** 399]:
            self.assertEqual(web_error((spots, ())), (None, "spots"))
            self.assertEqual(web_error((spots, None)), (None, "spots"))

    def test_wrong_ties(self):
        for ties in [None, True, 0, "", "0 1", [], [(0, 0)], {}, ((0, 0),) * 29, (None,) * 29]:
            self.assertEqual(web_error((1, ties)), (None, "ties"))

    def test_the_first_wrong_tie(self):
        wrong = [None, True, 0, "", "01", [], [0, 1], {}, (), (0,), (0, 1, 1), (1, 0), (0, 3), (3, 3), (-1, 0), (-1, -1),
                 (True, True), (False, 1), (0, True), (None, 1), (0, None), ("0", "1"), (0, "1"), ([0], 1), (0, (1,)),
                 ((0, 1),), (0, 10 ** 399), (-10 ** 399, 0)]
        for tie in wrong:
            self.assertEqual(web_error((3, (tie,))), (0, "tie"))
            self.assertEqual(web_error((3, ((0, 1), (2, 2), tie, None))), (2, "tie"))
        self.assertEqual(web_error((2, ((0, 1),) * 27 + ((1, 2),))), (27, "tie"))

    def test_odd_values(self):
        for value in ODD_VALUES:
            if value not in ((0, ((0, 1),)),):
                self.assertEqual(web_error(value)[0], None)


class PickTest(unittest.TestCase):
    def test_all_picks_of_small_webs(self):
        for web in (BARE, LOOP, P):
            for pick in plain.all_picks(web):
                self.assertIs(is_pick(web, pick), True)

    def test_what_is_no_pick(self):
        for value in [None, True, 0, "", "0", [], [0], [0, 1], {}, {0: True}, (5,), (0, 5), (-1,), (-1, 0), (0, 0), (1, 0),
                      (0, 2, 1), (True,), (False,), (False, 1), (0, True), ("0",), (0, "1"), (None,), ((0,),), ([0],),
                      (0, 1, 2, 3, 4, 5), (10 ** 399,), (0, 10 ** 399)]:
            self.assertIs(is_pick(P, value), False)
        self.assertIs(is_pick(BARE, (0,)), False)
        self.assertIs(is_pick(BARE, ()), True)

    def test_many_ties(self):
        self.assertIs(is_pick(bundle(60), tuple(range(60))), True)
        self.assertIs(is_pick(bundle(60), tuple(range(61))), False)

    def test_odd_values(self):
        for value in ODD_VALUES:
            known = isinstance(value, tuple) and value in ((), (0,), (0, 1, 2)) and True not in [
                isinstance(item, bool) for item in value]
            self.assertIs(is_pick(P, value), known, value)


class PartsOfWebsTest(unittest.TestCase):
    def test_spots_of(self):
        self.assertEqual(spots_of(W, ()), ())
        self.assertEqual(spots_of(P, (3,)), (2,))
        self.assertEqual(spots_of(P, (0, 1)), (0, 1))
        rng = random.Random(2)
        for web in small_webs(2, 30):
            for pick in random_picks(rng, web, 5):
                self.assertEqual(spots_of(web, pick), tuple(sorted(plain.spots_of(web, pick))))

    def test_darts_at(self):
        self.assertEqual(darts_at(LOOP, 0), (0, 1))
        self.assertEqual(darts_at((3, ((0, 2), (0, 0), (0, 2))), 1), ())
        self.assertEqual(darts_at((3, ((0, 2), (0, 0), (0, 2))), 0), (0, 2, 3, 4))
        for web in small_webs(3, 30):
            stands = [end for ends in web[1] for end in ends]
            for spot in range(web[0]):
                darts = tuple(dart for dart, end in enumerate(stands) if end == spot)
                self.assertEqual(darts_at(web, spot), darts)

    def test_pieces(self):
        self.assertEqual(pieces(BARE), ((0,),))
        self.assertEqual(pieces((3, ())), ((0,), (1,), (2,)))
        self.assertEqual(pieces((3, ((0, 2), (1, 1)))), ((0, 2), (1,)))
        self.assertEqual(pieces(ring(7)), (tuple(range(7)),))
        for web in small_webs(4, 80):
            self.assertEqual(pieces(web), plain.pieces(web))


class MadeOfWebsTest(unittest.TestCase):
    def test_taken_out(self):
        self.assertEqual(taken_out(P, ()), P)
        self.assertEqual(taken_out(P, (0, 1, 2, 3, 4)), (4, ()))
        self.assertEqual(taken_out(P, (1, 3)), (4, ((0, 1), (1, 2), (2, 3))))
        rng = random.Random(5)
        for web in small_webs(5, 30):
            for pick in random_picks(rng, web, 4):
                left = tuple(web[1][tie] for tie in range(len(web[1])) if tie not in pick)
                self.assertEqual(taken_out(web, pick), (web[0], left))

    def test_web_of(self):
        self.assertEqual(web_of(P, ()), BARE)
        self.assertEqual(web_of(BARE, ()), BARE)
        self.assertEqual(web_of(P, (3,)), LOOP)
        self.assertEqual(web_of(P, (4,)), (2, ((0, 1),)))
        self.assertEqual(web_of(P, (0, 4)), (4, ((0, 1), (2, 3))))
        rng = random.Random(6)
        for web in small_webs(6, 30):
            for pick in random_picks(rng, web, 4):
                kept = spots_of(web, pick)
                part = web_of(web, pick)
                self.assertEqual(part[0], max(len(kept), 1))
                self.assertEqual([(kept[a], kept[b]) for a, b in part[1]], [web[1][tie] for tie in pick])

    def test_drawn_in(self):
        self.assertEqual(drawn_in(LOOP, 0), BARE)
        self.assertEqual(drawn_in((2, ((0, 1),)), 0), BARE)
        self.assertEqual(drawn_in(bundle(3), 1), (1, ((0, 0), (0, 0))))
        self.assertEqual(drawn_in((4, ((1, 3), (2, 3), (3, 3), (0, 2))), 0), (3, ((1, 2), (1, 1), (0, 2))))
        self.assertEqual(drawn_in((4, ((0, 1), (1, 3), (2, 3))), 0), (3, ((0, 2), (1, 2))))

    def test_drawn_in_tells_ends_in_order(self):
        for web in small_webs(7, 60):
            for tie, (low, high) in enumerate(web[1]):
                names = [min(low, spot) if spot == high else spot for spot in range(web[0])]
                kept = sorted(set(names))
                ends = [sorted((kept.index(names[a]), kept.index(names[b]))) for a, b in web[1]]
                left = tuple(tuple(pair) for other, pair in enumerate(ends) if other != tie)
                self.assertEqual(drawn_in(web, tie), (len(kept), left))


if __name__ == "__main__":
    unittest.main()
