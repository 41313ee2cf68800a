"""[G1] to [G3], and [A2] (d): moves between the flat layings of whole webs."""

import random
import unittest

from flatbonds.errors import BadMove, NotFlat, NotWhole, TooMany
from flatbonds.layings import all_layings, how_many, is_flat, lay, laying_error, over
from flatbonds.moves import back, is_loose, moved, moves_between, way, way_holds
from flatbonds.webs import pieces
import plain
from samples import (
    BARE, F, H, LINE, LOOP, ODD_VALUES, P, R, W, beside_one_another, bundle, drawn_parts, fan_of_paths, far_webs, path,
    random_picks, ring, small_blocks, small_webs, tied_on, wheel, with_loops, with_spots
)

L = ((0, 2, 4), (1, 8, 6), (3, 7, 10), (5, 11, 9))
ODD_LAYING = ((0, 2, 4), (1, 6, 8), (3, 7, 10), (5, 11, 9))
N = ((0, 2), (1, 3, 4), (5, 6, 7, 8), (9,))
NOT_WHOLE = [BARE, (60, ()), with_spots(W, 5), beside_one_another(W, W), with_spots(LOOP, 2)]


def whole_webs(seed, many, most_spots=6, most_ties=7):
    """Small whole webs with a tie and a flat laying."""
    return [web for web in small_webs(seed, many, most_spots, most_ties)
            if web[1] and len(pieces(web)) == 1 and how_many(web) > 0]


def far_whole_webs():
    rng = random.Random(140)
    webs = [web for web in far_webs().values() if web[1] and len(pieces(web)) == 1 and lay(web) is not None]
    webs += [drawn_parts(rng, 60) for _ in range(10)] + [tied_on(tied_on(ring(20), wheel(10)), path(15), 3)]
    return webs


class LooseTest(unittest.TestCase):
    def test_by_the_words_of_the_document(self):
        rng = random.Random(141)
        for web in whole_webs(141, 200) + [web for web in small_blocks(141, 60, 6, 9) if how_many(web)]:
            laying = rng.choice(all_layings(web)) if how_many(web) <= 1000 else lay(web)
            for pick in plain.all_picks(web):
                self.assertIs(is_loose(web, laying, pick), plain.is_loose(web, laying, pick))

    def test_known_ones(self):
        self.assertEqual([is_loose(P, N, ()), is_loose(P, N, (0, 1, 2, 3, 4))], [False, False])
        self.assertEqual([is_loose(P, N, (0,)), is_loose(P, N, (2,)), is_loose(W, L, (0, 1, 3)), is_loose(W, L, (0,))],
                         [True, True, False, True])
        # The loop goes round the last tie.
        round_it = ((0, 2), (1, 3, 4), (5, 6, 8, 7), (9,))
        self.assertEqual([is_loose(P, round_it, (3,)), is_loose(P, round_it, (4,)), is_loose(P, round_it, (3, 4))],
                         [False, True, True])
        self.assertIs(is_loose(LOOP, ((0, 1),), (0,)), False)

    def test_far_webs(self):
        rng = random.Random(142)
        for web in far_whole_webs():
            laying = lay(web)
            picks = random_picks(rng, web, 5) + [(tie,) for tie in range(0, len(web[1]), 5)]
            for pick in picks + [tuple(range(first, first + 7)) for first in (0, 20, 40)]:
                if pick and pick[-1] >= len(web[1]):
                    continue
                self.assertIs(is_loose(web, laying, pick), plain.is_loose(web, laying, pick))


class MovedTest(unittest.TestCase):
    def check_moves(self, web, laying, moves):
        for move in moves:
            found = moved(web, laying, move)
            self.assertEqual(found, plain.led(web, laying, move))
            self.assertIsNone(laying_error(web, found))
            self.assertTrue(is_flat(web, found))
            move_back = back(web, laying, move)
            self.assertEqual(moved(web, found, move_back), laying)
            self.assertIs(way_holds(web, laying, laying, (move, move_back)), True)

    def test_all_moves(self):
        rng = random.Random(143)
        for web in whole_webs(143, 200) + [web for web in small_blocks(143, 40, 6, 8) if how_many(web)]:
            laying = rng.choice(all_layings(web)) if how_many(web) <= 1000 else lay(web)
            moves = plain.all_moves(web, laying)
            self.check_moves(web, laying, moves)
            for _ in range(20):
                pick = rng.choice(plain.all_picks(web))
                for move in (("flip", pick), ("hop", pick, rng.randrange(2 * len(web[1])))):
                    if move not in moves:
                        for call in (moved, back):
                            with self.assertRaises(BadMove):
                                call(web, laying, move)
                        self.assertIs(way_holds(web, laying, laying, (move,)), False)

    def test_far_webs(self):
        rng = random.Random(144)
        for web in far_whole_webs():
            laying = lay(web)
            for _ in range(4):
                moves = [("over",)]
                for pick in [(tie,) for tie in rng.sample(range(len(web[1])), 12)] + random_picks(rng, web, 4):
                    if plain.is_loose(web, laying, pick):
                        moves.append(("flip", pick))
                        rest = [tie for tie in range(len(web[1])) if tie not in pick]
                        common = plain.spots_of(web, pick) & plain.spots_of(web, rest)
                        if len(common) == 1:
                            darts = [dart for dart in laying[min(common)] if dart // 2 not in pick]
                            moves.append(("hop", pick, rng.choice(darts)))
                self.check_moves(web, laying, moves)
                laying = moved(web, laying, rng.choice(moves))

    def test_bad_moves(self):
        bad = [("over", ()), ("over", None), ["over"], ("flip",), ("flip", ()), ("flip", (0, 1, 2, 3, 4)), ("flip", [3]),
               ("flip", (3,), 8), ("flip", (4, 3)), ("flip", (3, 3)), ("flip", (5,)), ("flip", (-1,)), ("flip", None),
               ("flip", (True,)), ("flip", 3), ("flip", "3"), ("flip", (10 ** 399,)), ("hop", (3,)), ("hop", (3,), 6),
               ("hop", (3,), 7), ("hop", (3,), 9), ("hop", (3,), 0), ("hop", (3,), 10), ("hop", (3,), -1), ("hop", (3,), None),
               ("hop", (3,), "8"), ("hop", (3,), (8,)), ("hop", (3,), [8]), ("hop", (3,), 8, 8), ("hop", [3], 8),
               ("hop", (0,), 2), ("hop", (2,), 1), ("hop", (), 8), ("hop", (0, 1, 2, 3, 4), 8), ("hop", (3,), 10 ** 399),
               ("hop", 8, (3,)), ("Over",), ("", ), (None,), (0,), ((),), ([],), ({},), ("over",) * 2, "over", {"over": 1},
               ("skip", (3,)), ("hop", (0, 1), True), ("hop", (0, 1), 0), ((), (3,)), ([], (3,)), ({}, (3,), 8)]
        for value in bad:
            for call in (moved, back):
                with self.assertRaises(BadMove):
                    call(P, N, value)
            self.assertIs(way_holds(P, N, N, (value,)), False, value)
        self.assertEqual(moved(P, N, ("hop", (0, 1), 4)), N)

    def test_odd_values(self):
        for web, laying in ((P, N), (W, L), (LOOP, ((0, 1),)), (LINE, ((0,), (1,)))):
            # Told by what is written for them, as True equals 1.
            good = {repr(move) for move in plain.all_moves(web, laying)}
            for value in ODD_VALUES:
                for move in (value, ("flip", value), ("hop", (0,), value), ("hop", (3,), value), ("hop", value, 8),
                             (value, (0,)), (value,), ("over", value), ("flip", (3,), value)):
                    if repr(move) in good:
                        self.assertEqual(moved(web, laying, move), plain.led(web, laying, move))
                        continue
                    for call in (moved, back):
                        with self.assertRaises(BadMove):
                            call(web, laying, move)
                    self.assertIs(way_holds(web, laying, laying, (move,)), False)


class WayTest(unittest.TestCase):
    def test_a_shortest_way(self):
        rng = random.Random(145)
        longest = 0
        for web in whole_webs(145, 120, 5, 6):
            if how_many(web) > 60:
                continue
            known = all_layings(web)
            laying, last = rng.choice(known), rng.choice(known)
            found = way(web, laying, last)
            self.assertEqual(len(found), plain.fewest_moves(web, laying, last))
            self.assertEqual(moves_between(web, laying, last), len(found))
            self.assertIs(way_holds(web, laying, last, found), True)
            longest = max(longest, len(found))
        self.assertGreater(longest, 1)

    def test_all_flat_layings_are_led_to(self):
        for web in (P, R, H, bundle(4), with_loops(LINE, 2), tied_on(LINE, bundle(3))):
            known = all_layings(web)
            for last in known:
                found = way(web, known[0], last)
                self.assertIs(way_holds(web, known[0], last, found), True)
                self.assertEqual(len(found), plain.fewest_moves(web, known[0], last))

    def test_known_ones(self):
        self.assertEqual([way(W, L, L), way(W, L, over(W, L)), moves_between(W, L, L)], [(), (("over",),), 0])
        self.assertEqual(way(LOOP, ((0, 1),), ((0, 1),)), ())
        star = (6, tuple((0, at) for at in range(1, 6)))
        first = ((0, 2, 4, 6, 8), (1,), (3,), (5,), (7,), (9,))
        last = ((0, 4, 8, 2, 6), (1,), (3,), (5,), (7,), (9,))
        self.assertEqual(moves_between(star, first, last), plain.fewest_moves(star, first, last))

    def test_too_many(self):
        eight = ring(8)
        for call in (way, moves_between):
            with self.assertRaises(TooMany) as caught:
                call(eight, lay(eight), lay(eight))
            self.assertEqual(caught.exception.limit, 7)
            for web in (bundle(7), (8, tuple((0, at) for at in range(1, 8))), with_loops(BARE, 4)):
                self.assertGreater(how_many(web), 150)
                with self.assertRaises(TooMany) as caught:
                    call(web, lay(web), over(web, lay(web)))
                self.assertEqual(caught.exception.limit, 150)
            for web in (bundle(60), with_loops(BARE, 8)):
                with self.assertRaises(TooMany) as caught:
                    call(web, lay(web), lay(web))
                self.assertEqual(caught.exception.limit, 7)
        self.assertEqual(how_many(bundle(6)), 120)
        self.assertEqual(moves_between(bundle(6), lay(bundle(6)), lay(bundle(6))), 0)
        self.assertEqual(moves_between(ring(7), lay(ring(7)), lay(ring(7))), 0)


class WayHoldsTest(unittest.TestCase):
    def test_rows_of_moves(self):
        rng = random.Random(146)
        for web in whole_webs(146, 80):
            at = lay(web)
            row, been = [], [at]
            for _ in range(8):
                row.append(rng.choice(plain.all_moves(web, at)))
                at = plain.led(web, at, row[-1])
                been.append(at)
            for many in range(9):
                for last in been:
                    self.assertIs(way_holds(web, been[0], last, tuple(row[:many])), been[many] == last)

    def test_far_webs(self):
        for web in far_whole_webs():
            laying = lay(web)
            self.assertIs(way_holds(web, laying, laying, (("over",),) * 1400), True)
            self.assertIs(way_holds(web, laying, over(web, laying), (("over",),) * 1399), True)
            self.assertEqual(way_holds(web, laying, laying, (("over",),)), over(web, laying) == laying)

    def test_odd_values(self):
        for value in [None, [], [("over",)], {}, "over", ("over",), (("over",), None), (("over",), ()), ((),), (None,),
                      (("over",), ("over", 0)), {("over",): 1}, True, 0, ((("over",),),)]:
            self.assertIs(way_holds(W, L, L, value), False, value)
            self.assertIs(way_holds(W, L, over(W, L), value), False, value)
        self.assertIs(way_holds(W, L, L, ()), True)
        self.assertIs(way_holds(W, L, over(W, L), ()), False)


class ErrorsTest(unittest.TestCase):
    def calls(self, web, laying, last):
        return {
            "one": [lambda: moved(web, laying, None), lambda: moved(web, laying, ("over",)),
                    lambda: is_loose(web, laying, ()), lambda: back(web, laying, None)],
            "two": [lambda: way(web, laying, last), lambda: way_holds(web, laying, last, None),
                    lambda: way_holds(web, laying, last, ()), lambda: moves_between(web, laying, last)],
        }

    def test_not_whole_goes_ahead_of_all_else(self):
        layings = [((),), ((),) * 60, ODD_LAYING + ((),), L + tuple(tuple(dart + 12 for dart in turn) for turn in ODD_LAYING),
                   ((0, 1), ())]
        for web, laying in zip(NOT_WHOLE, layings):
            self.assertIsNone(laying_error(web, laying))
            calls = self.calls(web, laying, laying)
            for call in calls["one"] + calls["two"]:
                with self.assertRaises(NotWhole):
                    call()

    def test_not_flat(self):
        calls = self.calls(W, ODD_LAYING, L)
        for call in calls["one"] + calls["two"] + self.calls(W, L, ODD_LAYING)["two"]:
            with self.assertRaises(NotFlat):
                call()
        self.assertEqual(moved(W, L, ("over",)), over(W, L))
        rng = random.Random(147)
        for web in (wheel(30), F, fan_of_paths(10, 6), bundle(8)):
            turns = []
            for spot in range(web[0]):
                darts = plain.darts_at(web, spot)
                turns.append(tuple(darts[:1] + rng.sample(darts[1:], len(darts[1:]))))
            self.assertFalse(is_flat(web, tuple(turns)))
            calls = self.calls(web, tuple(turns), tuple(turns))
            # This goes ahead of TooMany and BadMove.
            for call in calls["one"] + calls["two"]:
                with self.assertRaises(NotFlat):
                    call()


if __name__ == "__main__":
    unittest.main()
