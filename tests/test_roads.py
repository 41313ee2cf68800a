"""[L1] to [L3] and [A2] (h): roads apart, stops, ears and risings."""

import random
import unittest
from itertools import permutations

from flatbonds.errors import NotBlock, SameSpot
from flatbonds.roads import ears, ears_hold, rising, rising_holds, roads_apart, roads_hold, stop, stop_holds
import plain
from samples import (
    BARE, F, H, LINE, LOOP, ODD_VALUES, P, W, beside_one_another, bundle, far_webs, full, path, prism, ring,
    small_blocks, small_webs, tied_on, with_loops, with_spots
)


def pairs(web):
    return [(spot, last) for spot in range(web[0]) for last in range(web[0]) if spot != last]


def are_apart(known, value):
    """Whether the value is made of these roads, without common ties or spots between."""
    between = dict(known)
    if not all(road in between for road in value):
        return False
    ties = [tie for road in value for tie in road]
    spots = [spot for road in value for spot in between[road]]
    return len(set(ties)) == len(ties) and len(set(spots)) == len(spots)


class RoadsApartTest(unittest.TestCase):
    def check_web(self, web, spot, last):
        found, stops = roads_apart(web, spot, last), stop(web, spot, last)
        known = plain.roads(web, spot, last)
        self.assertIsInstance(found, tuple)
        self.assertTrue(are_apart(known, found))
        self.assertIs(roads_hold(web, spot, last, found), True)
        self.assertTrue(plain.is_stop(known, *stops))
        self.assertIs(stop_holds(web, spot, last, stops), True)
        self.assertEqual(len(found), len(stops[0]) + len(stops[1]))
        return len(found)

    def test_as_many_as_can_be(self):
        for web in small_webs(40, 60, 6, 8):
            for spot, last in pairs(web):
                count = self.check_web(web, spot, last)
                self.assertEqual(count, plain.fewest_things(web, spot, last))
                known = plain.roads(web, spot, last)
                if len(known) < 12:
                    self.assertEqual(count, plain.most_apart(known))

    def test_blocks(self):
        for web in small_blocks(41, 40, 7, 11):
            for spot, last in pairs(web):
                self.check_web(web, spot, last)

    def test_known_ones(self):
        self.assertEqual([roads_apart(beside_one_another(LINE, LINE), 0, 2), stop(beside_one_another(LINE, LINE), 0, 2)],
                         [(), ((), ())])
        self.assertEqual(sorted(roads_apart(bundle(60), 1, 0)), [(tie,) for tie in range(60)])
        self.assertEqual(stop(bundle(60), 1, 0), ((), tuple(range(60))))
        self.assertEqual(stop(with_loops(path(3), 2, 1), 0, 2), ((1,), ()))
        self.assertEqual(len(roads_apart(F, 4, 1)), 4)
        self.assertEqual(stop(W, 0, 3), ((1, 2), (2,)))
        self.assertEqual(len(roads_apart(full(11), 3, 7)), 10)
        self.assertEqual(len(roads_apart(prism(20), 0, 30)), 3)
        self.assertEqual(len(roads_apart(ring(60), 0, 1)), 2)

    def test_roads_that_must_turn_aside(self):
        # The shortest road, 0 1 4 5, stands in the way of the two that are apart.
        web = (6, ((0, 1), (1, 4), (4, 5), (0, 2), (2, 4), (1, 3), (3, 5)))
        self.assertEqual(len(roads_apart(web, 0, 5)), 2)
        self.assertTrue(roads_hold(web, 0, 5, roads_apart(web, 0, 5)))

    def test_one_spot(self):
        for web in (BARE, LOOP, W, P):
            for value in (None, (), ((), ()), 5):
                for call in (roads_hold, stop_holds):
                    with self.assertRaises(SameSpot):
                        call(web, web[0] - 1, web[0] - 1, value)
            for call in (roads_apart, stop):
                with self.assertRaises(SameSpot):
                    call(web, 0, 0)


class RoadsHoldTest(unittest.TestCase):
    def test_all_tuples_of_few_roads(self):
        rng = random.Random(42)
        for web in small_webs(42, 25, 5, 6):
            for spot, last in pairs(web):
                known = plain.roads(web, spot, last)
                roads = [road for road, _ in known]
                self.assertIs(roads_hold(web, spot, last, ()), True)
                for road in roads:
                    self.assertIs(roads_hold(web, spot, last, (road,)), True)
                    self.assertIs(roads_hold(web, spot, last, (road, road)), False)
                for _ in range(20):
                    some = tuple(rng.choice(roads) for _ in range(3) if roads)
                    self.assertEqual(roads_hold(web, spot, last, some), are_apart(known, some))
                    row = tuple(rng.randrange(-1, len(web[1]) + 1) for _ in range(rng.randint(0, 4)))
                    self.assertEqual(roads_hold(web, spot, last, (row,)), row in roads)

    def test_wrong_ones(self):
        for value in [(2,), [(2,)], ([2],), ((),), ((2,), ()), ((2,), (2,)), ((2,), None), ((6,),), ((-1,),), ((True, 4),),
                      ((0,),), ((4, 0),), ((0, 3, 5, 5),), ((0, 0, 2),), (("2",),), ((2, 2, 2),), ((0, 4), (0, 3, 5)),
                      ((0, 4), (1, 3, 4)), ((0, 4), (1, 5), (1, 3, 4)), None, "", {}, 2]:
            self.assertIs(roads_hold(W, 0, 3, value), False, value)
        self.assertIs(roads_hold(W, 0, 3, ((0, 4), (2,))), True)
        self.assertIs(roads_hold(W, 0, 3, ((0, 4), (1, 5), (2,))), True)
        self.assertIs(roads_hold(W, 3, 0, ((4, 0), (5, 1), (2,))), True)

    def test_roads_that_meet_at_a_spot_alone(self):
        # Spots 1, 2 and 3 lie between; each road has ties of its own.
        web = (5, ((0, 1), (1, 4), (0, 2), (1, 2), (1, 3), (3, 4), (0, 1), (2, 4), (0, 3)))
        self.assertIs(roads_hold(web, 0, 4, ((0, 1), (2, 7), (8, 5))), True)
        self.assertIs(roads_hold(web, 0, 4, ((0, 1), (2, 3, 4, 5))), False)
        self.assertIs(roads_hold(web, 0, 4, ((0, 1), (6, 4, 5))), False)
        self.assertIs(roads_hold(web, 0, 4, ((8, 5), (2, 7), (6, 4, 5))), False)
        self.assertIs(roads_hold(web, 0, 4, ((2, 3, 1), (6, 4, 5))), False)
        self.assertIs(roads_hold(web, 0, 4, ((2, 3, 1), (8, 5))), True)

    def test_roads_with_a_tie_in_common(self):
        self.assertIs(roads_hold(bundle(2), 0, 1, ((0,), (1,), (0,))), False)
        self.assertIs(roads_hold(bundle(2), 0, 1, ((1,), (1,))), False)

    def test_loops_and_ways_past_the_end(self):
        web = (3, ((0, 0), (0, 1), (1, 1), (1, 2), (1, 2)))
        for road in [(0, 1), (1, 2), (1, 3, 4), (1, 3, 3)]:
            self.assertIs(roads_hold(web, 0, 1, (road,)), False)
        self.assertIs(roads_hold(web, 0, 1, ((1,),)), True)
        self.assertIs(roads_hold(web, 0, 2, ((1, 4),)), True)
        self.assertIs(roads_hold(web, 0, 2, ((1, 2, 4),)), False)

    def test_odd_values(self):
        for value in ODD_VALUES:
            self.assertIs(roads_hold(W, 0, 3, value), value == () and isinstance(value, tuple), value)


class StopHoldsTest(unittest.TestCase):
    def test_all_pairs_of_small_ones(self):
        for web in small_webs(43, 30, 5, 6):
            for spot, last in pairs(web):
                known = plain.roads(web, spot, last)
                for spots in plain.all_picks((1, ((0, 0),) * web[0])):
                    for ties in plain.all_picks(web):
                        fits = not {spot, last} & set(spots) and all(set(web[1][tie]) == {spot, last} for tie in ties)
                        self.assertEqual(stop_holds(web, spot, last, (spots, ties)),
                                         fits and plain.is_stop(known, spots, ties))

    def test_wrong_ones(self):
        self.assertIs(stop_holds(W, 0, 3, ((1, 2), (2,))), True)
        for value in [((2, 1), (2,)), ([1, 2], (2,)), ((1, 2), [2]), [(1, 2), (2,)], ((1, 2), (2,), ()), ((1, 2),),
                      ((True, 2), (2,)), ((1, 2), (2, 2)), ((1, 1, 2), (2,)), ((0, 1, 2), (2,)), ((1, 2, 3), (2,)),
                      ((1, 2, 4), (2,)), ((1, 2), (1, 2)), ((1, 2), (2, 6)), ((1, 2), ()), ((1,), (2,)), ((-1, 1, 2), (2,)),
                      (None, (2,)), ((1, 2), None), "ab", None, {}, {0: 1, 1: 2}, ("", "")]:
            self.assertIs(stop_holds(W, 0, 3, value), False, value)

    def test_more_things_than_needed(self):
        self.assertIs(stop_holds(H, 0, 2, ((1, 3, 4), ())), True)
        self.assertIs(stop_holds(path(5), 0, 4, ((1, 2, 3), ())), True)
        self.assertIs(stop_holds(beside_one_another(LINE, LINE), 0, 2, ((), ())), True)
        self.assertIs(stop_holds(beside_one_another(LINE, LINE), 0, 2, ((1, 3), ())), True)

    def test_odd_values(self):
        for value in ODD_VALUES:
            self.assertIs(stop_holds(W, 0, 3, value), False, value)
        self.assertIs(stop_holds((2, ()), 0, 1, ((), ())), True)


class EarsTest(unittest.TestCase):
    def test_blocks(self):
        for web in small_blocks(44, 120, 8, 14):
            for tie in range(len(web[1])):
                found = ears(web, tie)
                self.assertIsInstance(found, tuple)
                self.assertTrue(all(isinstance(ear, tuple) for ear in found))
                self.assertIs(ears_hold(web, tie, found), True)
                self.assertEqual(len(found), max(len(web[1]) - web[0] + 1, 1))

    def test_just_the_blocks_have_ears_and_risings(self):
        for web in small_webs(45, 150, 5, 6):
            every = range(len(web[1]))
            if len(web[1]) == 0 or plain.spots_of(web, every) != set(range(web[0])):
                continue
            found = [plain.all_ears(web, tie) for tie in every]
            self.assertEqual([each is not None for each in found], [plain.is_block(web)] * len(web[1]))
            for tie in every:
                if found[tie] is not None:
                    self.assertIs(ears_hold(web, tie, found[tie]), True)
            if web[0] > 1 and all(a != b for a, b in web[1]):
                rows = list(permutations(range(web[0])))
                rise = [any(rising_holds(web, tie, row) for row in rows) for tie in every]
                self.assertEqual(rise, [plain.is_block(web)] * len(web[1]))

    def test_no_blocks(self):
        for web in [P, with_loops(W, 1), with_spots(W, 5), beside_one_another(W, W), path(3), tied_on(W, W)]:
            for call in (ears, rising):
                with self.assertRaises(NotBlock):
                    call(web, 0)
        for call in (ears, rising):
            with self.assertRaises(NotBlock):
                call(BARE, 0)

    def test_one_tie(self):
        self.assertEqual([ears(LOOP, 0), ears(LINE, 0)], [((0,),), ((0,),)])
        for web in (LOOP, LINE, with_spots(LINE, 4), (3, ((1, 1),))):
            self.assertIs(ears_hold(web, 0, ((0,),)), True)
            for value in ((), ((),), ((0,), ()), ((), (0,)), ((0, 0),), ((0,), (0,)), (0,), [(0,)], ([0],), ((False,),)):
                self.assertIs(ears_hold(web, 0, value), False)

    def test_rings_in_either_order(self):
        self.assertIs(ears_hold(ring(4), 0, ((0, 1, 2, 3),)), True)
        self.assertIs(ears_hold(ring(4), 0, ((0, 3, 2, 1),)), True)
        self.assertIs(ears_hold(ring(4), 0, ((0, 2, 1, 3),)), False)
        self.assertIs(ears_hold(ring(4), 1, ((0, 1, 2, 3),)), False)
        self.assertIs(ears_hold(bundle(2), 1, ((1, 0),)), True)
        self.assertIs(ears_hold(bundle(3), 1, ((1, 0), (2,))), True)
        self.assertIs(ears_hold(bundle(3), 1, ((1, 0, 2),)), False)
        self.assertIs(ears_hold(bundle(3), 1, ((1,), (0,), (2,))), False)

    def test_wrong_ears(self):
        good = ((0, 1, 3, 2), (4, 5))
        self.assertIs(ears_hold(H, 0, good), True)
        self.assertIs(ears_hold(H, 0, ((0, 1, 3, 2), (5, 4))), True)
        for value in [good + ((),), good + ((4,),), good[:1], good[1:], good[::-1], ((0, 1, 3, 2, 4, 5),), list(good),
                      ([0, 1, 3, 2], (4, 5)), ((0, 1, 3, 2), [4, 5]), ((0, 1, 3, 2), (4,), (5,)), ((0, 1, 3, 2), (4, 6)),
                      ((False, 1, 3, 2), (4, 5)), ((0, True, 3, 2), (4, 5)), ((0, 1, 3, 2), (4, 5, 5)), (good,),
                      ((1, 0, 2, 3), (4, 5)), ((0, 1, 2, 3), (4, 5)), ((0, 2, 3, 1), None), None, 0, "", {}, ()]:
            self.assertIs(ears_hold(H, 0, value), False, value)
        # A first ear whose last tie leads elsewhere than back, or from elsewhere.
        self.assertIs(ears_hold(W, 0, ((0, 3, 2), (1,), (4,), (5,))), False)
        self.assertIs(ears_hold(W, 0, ((0, 3, 5), (1,), (2,), (4,))), False)
        self.assertIs(ears_hold(W, 0, ((0, 5), (1,), (2,), (3,), (4,))), False)
        # An ear that leads back to its first spot, one that goes past a spot of an ear, one that hangs free.
        web = (5, ((0, 1), (1, 2), (0, 2), (2, 3), (3, 4), (2, 4)))
        self.assertIs(ears_hold(web, 0, ((0, 1, 2), (3, 4, 5))), False)
        self.assertIs(ears_hold(W, 0, ((0, 3, 1), (2, 5), (4,))), True)
        self.assertIs(ears_hold(W, 0, ((0, 3, 1), (2, 5, 4))), False)
        self.assertIs(ears_hold(W, 0, ((0, 3, 1), (2,), (4, 5))), False)

    def test_ears_of_webs_with_loops(self):
        self.assertIs(ears_hold(with_loops(bundle(2), 1), 0, ((0, 1), (2,))), False)
        self.assertIs(ears_hold(with_loops(LOOP, 1), 0, ((0,), (1,))), False)
        self.assertIs(ears_hold(with_loops(LOOP, 1), 0, ((0, 1),)), False)
        self.assertIs(ears_hold(with_spots(ring(3), 9), 0, ((0, 1, 2),)), True)

    def test_odd_values(self):
        for value in ODD_VALUES:
            self.assertIs(ears_hold(W, 0, value), False, value)
        self.assertIs(ears_hold(BARE, 0, ()), False)


class RisingTest(unittest.TestCase):
    def test_blocks(self):
        for web in small_blocks(46, 120, 8, 14):
            for tie in range(len(web[1])):
                found = rising(web, tie)
                self.assertIsInstance(found, tuple)
                self.assertTrue(plain.rises(web, tie, found))
                self.assertIs(rising_holds(web, tie, found), True)

    def test_all_rows(self):
        for web in small_webs(47, 60, 5, 7):
            for tie in range(len(web[1])):
                for row in permutations(range(web[0])):
                    self.assertIs(rising_holds(web, tie, row), plain.rises(web, tie, row))

    def test_one_spot(self):
        self.assertEqual(rising(LOOP, 0), (0,))
        self.assertEqual(rising(LINE, 0), (0, 1))
        self.assertIs(rising_holds(LOOP, 0, (0,)), True)
        self.assertIs(rising_holds(with_loops(LOOP, 3), 2, (0,)), True)
        self.assertIs(rising_holds(with_spots(LOOP, 2), 0, (0,)), False)
        self.assertIs(rising_holds((2, ((0, 1), (0, 0))), 1, (0,)), False)
        self.assertIs(rising_holds((2, ((0, 1), (0, 0))), 1, (0, 1)), False)
        for value in ((), (False,), [0], (0, 0), (1,), None):
            self.assertIs(rising_holds(LOOP, 0, value), False)

    def test_wrong_ones(self):
        self.assertIs(rising_holds(W, 0, (0, 2, 3, 1)), True)
        for value in [(0, 2, 3), (0, 2, 3, 3, 1), (0, 2, 3, 4, 1), (1, 2, 3, 0), (0, 1, 2, 3), [0, 2, 3, 1], (0, 2, 3, True),
                      (False, 2, 3, 1), (0, 2, "3", 1), (0, 2, 2, 1), (0, 1), (), None, "0231", {}, 0]:
            self.assertIs(rising_holds(W, 0, value), False, value)
        # A loop, or a tie beside another one, leads to no other spot.
        self.assertIs(rising_holds((3, ((0, 2), (0, 1), (1, 1), (0, 1))), 0, (0, 1, 2)), False)

    def test_odd_values(self):
        for value in ODD_VALUES:
            self.assertIs(rising_holds(W, 0, value), False, value)


class FarRoadsTest(unittest.TestCase):
    def test_far_webs(self):
        rng = random.Random(48)
        for web in far_webs().values():
            for _ in range(10):
                spot, last = rng.randrange(web[0]), rng.randrange(web[0])
                if spot != last:
                    found, stops = roads_apart(web, spot, last), stop(web, spot, last)
                    self.assertTrue(roads_hold(web, spot, last, found))
                    self.assertTrue(stop_holds(web, spot, last, stops))
                    self.assertEqual(len(found), len(stops[0]) + len(stops[1]))


if __name__ == "__main__":
    unittest.main()
