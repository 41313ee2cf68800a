"""[D1] to [D3] and [A2] (b): partings, joins, and the tree of parts."""

import random
import unittest

from flatbonds.blocks import is_block
from flatbonds.errors import NoPart, NotBlock, NotParting
from flatbonds.rings import is_ring
from flatbonds.trees import crossing, is_firm, is_parting, joins, meeting, part_web, poles, tree, tree_holds
import plain
from samples import (
    BARE, F, H, LINE, LOOP, ODD_VALUES, P, R, W, beside_one_another, bundle, drawn_order, drawn_parts, fan_of_paths, full,
    ladder, path, prism, put_together, random_block, random_picks, ring, small_blocks, small_webs, tied_on, wheel,
    with_loops, with_spots
)

NO_BLOCKS = [BARE, P, path(3), with_loops(LOOP, 1), with_loops(W, 1), with_spots(W, 5), with_spots(LINE, 3),
             beside_one_another(W, W), tied_on(W, W), (60, ())]


class PartingsTest(unittest.TestCase):
    def test_all_picks_of_small_blocks(self):
        for web in small_blocks(50, 60, 6, 9):
            for pick in plain.all_picks(web):
                known = plain.is_parting(web, pick)
                self.assertIs(is_parting(web, pick), known)
                if known:
                    self.assertEqual(poles(web, pick), plain.shared(web, pick))
                else:
                    for call in (poles, crossing):
                        with self.assertRaises(NotParting):
                            call(web, pick)

    def test_the_edges(self):
        for web in (LOOP, LINE, bundle(2), bundle(3), W, H):
            every = tuple(range(len(web[1])))
            self.assertEqual([is_parting(web, ()), is_parting(web, every)], [False, False])
            self.assertEqual([is_parting(web, every[1:]), is_parting(web, every[:1])], [False, False])
        self.assertEqual([is_parting(bundle(4), (0, 3)), is_parting(bundle(3), (0, 1))], [True, False])
        self.assertEqual([poles(bundle(60), (3, 7)), poles(ring(60), (3, 4, 5))], [(0, 1), (3, 6)])


class JoinsTest(unittest.TestCase):
    def test_against_all_partings(self):
        for web in small_blocks(51, 250, 7, 10) + small_blocks(52, 60, 9, 12):
            self.assertEqual(joins(web), plain.joins(web))

    def test_known_ones(self):
        for web in (LOOP, LINE, bundle(2), bundle(3), bundle(60), ring(3), ring(60), W, F, wheel(5), prism(4)):
            self.assertEqual(joins(web), ())
        self.assertEqual(joins(R), ((2, 3, 4), (2, 3, 4, 5)))
        self.assertEqual(joins(prism(3)), ())
        self.assertEqual(joins((2 * 2, ((0, 1), (0, 1), (1, 2), (2, 3), (0, 3)))), ((2, 3, 4),))


class TreeTest(unittest.TestCase):
    def test_by_the_words_of_the_document(self):
        for web in small_blocks(53, 150, 7, 10) + small_blocks(54, 40, 9, 12):
            known = plain.tree(web)
            self.assertEqual(tree(web), known)
            self.assertIs(tree_holds(web, known), True)

    def test_known_ones(self):
        self.assertEqual([tree(LOOP), tree(LINE)], [(("line", (0,)),)] * 2)
        self.assertEqual([tree(bundle(2)), tree(bundle(3))], [(("ring", (0, 1)),), (("bundle", (0, 1, 2)),)])
        self.assertEqual(tree(ring(60)), (("ring", tuple(range(60))),))
        self.assertEqual(tree(bundle(60)), (("bundle", tuple(range(60))),))
        self.assertEqual(tree(full(11)), (("firm", tuple(range(55))),))

    def test_small_blocks_by_strands(self):
        for web in small_blocks(62, 60, 7, 10):
            self.assertEqual(plain.joins_by_strands(web), plain.joins(web))

    def test_put_together_up_to_sixty_ties(self):
        rng = random.Random(63)
        webs = [drawn_parts(rng, most) for most in (10, 20, 30, 45, 60, 60) for _ in range(6)]
        webs += [put_together(rng, *[ring(3), bundle(3)] * 10), put_together(rng, *[ring(9), bundle(4), wheel(4)] * 3)]
        webs += [drawn_order(rng, web) for web in (wheel(30), bundle(60), ladder(20), fan_of_paths(6, 10))]
        self.assertGreater(max(len(web[1]) for web in webs), 55)
        for web in webs:
            known = plain.joins_by_strands(web)
            self.assertEqual(joins(web), known)
            self.assertEqual(tree(web), plain.tree(web, known))
            self.assertIs(tree_holds(web, plain.tree(web, known)), True)

    def test_rings_in_a_drawn_order(self):
        rng = random.Random(64)
        for ties in (3, 4, 5, 14, 30, 60):
            web = drawn_order(rng, ring(ties))
            self.assertEqual([joins(web), tree(web)], [(), (("ring", tuple(range(ties))),)])
            twice = drawn_order(rng, (ties, web[1] + web[1][:1]))
            self.assertEqual(sorted(kind for kind, _ in tree(twice)), ["bundle", "ring"])

    def check_parts(self, web):
        known = tree(web)
        sides = joins(web)
        self.assertEqual(len(known), len(sides) + 1)
        holders = {}
        for number, (kind, members) in enumerate(known):
            part = part_web(web, number)
            self.assertEqual(len(part[1]), len(members))
            self.assertTrue(is_block(part))
            self.assertEqual(is_firm(part), kind == "firm")
            if part[0] < 16:
                self.assertEqual(plain.is_firm_block(part), kind == "firm")
            if kind == "ring":
                self.assertTrue(is_ring(part, tuple(range(len(members)))))
            if kind == "bundle":
                self.assertEqual((part[0], len(members) >= 3), (2, True))
            self.assertEqual(kind == "line", len(members) == 1)
            self.assertEqual(members, tuple(sorted(set(members))))
            for member in members:
                holders.setdefault(member, []).append(number)
        for tie in range(len(web[1])):
            self.assertEqual(len(holders[tie]), 1)
        for join in range(len(sides)):
            first, last = holders[-1 - join]
            kinds = (known[first][0], known[last][0])
            self.assertNotIn(kinds, [("ring", "ring"), ("bundle", "bundle")])
            self.assertIn(join + 1, (first, last))
        return holders

    def check_meetings(self, web, holders, rng):
        known = tree(web)
        for _ in range(20):
            tie, last = rng.randrange(len(web[1])), rng.randrange(len(web[1]))
            row = meeting(web, tie, last)
            self.assertIsInstance(row, tuple)
            self.assertEqual((row[0], row[-1]), (holders[tie][0], holders[last][0]))
            self.assertEqual(len(set(row)), len(row))
            for at, further in zip(row, row[1:]):
                common = set(known[at][1]) & set(known[further][1])
                self.assertTrue(any(member < 0 for member in common))

    def test_parts_and_ways_between_them(self):
        rng = random.Random(55)
        for web in small_blocks(55, 100, 10, 18):
            self.check_meetings(web, self.check_parts(web), rng)

    def test_parts_of_far_blocks(self):
        rng = random.Random(56)
        for spots in (20, 35, 50, 59):
            web = random_block(rng, spots, 60)
            self.check_meetings(web, self.check_parts(web), rng)
        for web in (ladder(20), fan_of_paths(30, 2), fan_of_paths(3, 20), (30, ring(30)[1] * 2), prism(20), wheel(30)):
            self.check_meetings(web, self.check_parts(web), rng)

    def test_partings_are_joins_or_part_the_members(self):
        for web in small_blocks(57, 60, 7, 10):
            known, sides = tree(web), joins(web)
            every = set(range(len(web[1])))
            for pick in plain.partings(web):
                if pick in sides:
                    continue
                parted = []
                for number, (kind, members) in enumerate(known):
                    side = set(sides[number - 1]) if number else every
                    rows = [{member} if member >= 0 else
                            (every - side if member == -number else set(sides[-1 - member])) for member in members]
                    if all(row <= set(pick) or not row & set(pick) for row in rows):
                        parted.append(kind)
                self.assertEqual(len(parted), 1)
                self.assertIn(parted[0], ("ring", "bundle"))

    def test_part_web(self):
        self.assertEqual([part_web(LOOP, 0), part_web(LINE, 0), part_web(W, 0)], [LOOP, LINE, W])
        self.assertEqual(part_web(H, 3), (3, ((0, 1), (0, 2), (1, 2))))
        for web in (LOOP, W, H, ring(60)):
            for number in (-1, -2, len(tree(web)), 10 ** 30, -10 ** 30):
                with self.assertRaises(NoPart) as caught:
                    part_web(web, number)
                self.assertEqual(caught.exception.number, number)


class TreeHoldsTest(unittest.TestCase):
    def test_wrong_ones(self):
        known = tree(H)
        self.assertIs(tree_holds(H, known), True)
        for value in [known[:3], known[::-1], known + (known[0],), list(known), tuple(list(part) for part in known),
                      tuple((kind, list(members)) for kind, members in known), (("ring", (-2, False, True)),) + known[1:],
                      (("ring", (-2, 0, True)),) + known[1:], (("firm", (-2, 0, 1)),) + known[1:],
                      (("ring", (0, 1, -2)),) + known[1:], (("ring", (-2, 0, 1), 0),) + known[1:], (None,) + known[1:],
                      (("ring", None),) + known[1:], ((0, (-2, 0, 1)),) + known[1:], ((None, (-2, 0, 1)),) + known[1:],
                      (("ring", ("-2", 0, 1)),) + known[1:], (("ring", (-2, 0, [1])),) + known[1:], tree(R), tree(W)]:
            self.assertIs(tree_holds(H, value), False, value)

    def test_true_and_false_for_numbers(self):
        self.assertIs(tree_holds(LOOP, (("line", (0,)),)), True)
        self.assertIs(tree_holds(LOOP, (("line", (False,)),)), False)
        self.assertIs(tree_holds(bundle(2), (("ring", (0, True)),)), False)

    def test_odd_values(self):
        for web in (LOOP, W, H):
            for value in ODD_VALUES:
                self.assertIs(tree_holds(web, value), False)


class FirmTest(unittest.TestCase):
    def test_by_all_partings(self):
        for web in small_blocks(58, 250, 6, 10):
            self.assertIs(is_firm(web), web[0] >= 4 and plain.partings(web) == [] and not (
                any(plain.is_parting(web, pick) for pick in plain.all_picks(web))))

    def test_for_any_web(self):
        for web in small_webs(59, 100):
            if not plain.is_block(web):
                self.assertIs(is_firm(web), False)
        for web in NO_BLOCKS + [LOOP, LINE, bundle(2), bundle(3), bundle(4), ring(3), ring(4), R, H]:
            self.assertIs(is_firm(web), False)
        for web in (W, F, wheel(4), wheel(29), prism(3), prism(20), full(11)):
            self.assertIs(is_firm(web), True)
        self.assertIs(is_firm((4, W[1] + ((0, 1),))), False)


class CrossingTest(unittest.TestCase):
    def test_all_partings_of_small_blocks(self):
        for web in small_blocks(60, 120, 7, 10):
            known = plain.partings(web)
            every = set(range(len(web[1])))
            for side in known:
                for pick in (side, tuple(sorted(every - set(side)))):
                    found = crossing(web, pick)
                    if found is None:
                        self.assertFalse(any(plain.do_cross(web, pick, other) for other in known))
                    else:
                        self.assertTrue(is_parting(web, found))
                        self.assertTrue(plain.do_cross(web, pick, found))

    def test_partings_of_far_blocks(self):
        rng = random.Random(61)
        for web in (ring(60), bundle(60), fan_of_paths(3, 20), fan_of_paths(30, 2), (30, ring(30)[1] * 2)):
            picks = [tuple(range(first, last)) for first, last in ((0, 2), (3, 20), (0, 30), (5, 55), (4, 8))]
            for pick in picks + random_picks(rng, web, 10):
                if is_parting(web, pick):
                    found = crossing(web, pick)
                    sides = [side for side in joins(web) if side in (pick, tuple(sorted(set(range(60)) - set(pick))))]
                    self.assertEqual(found is None, len(sides) == 1)
                    if found is not None:
                        self.assertTrue(is_parting(web, found) and plain.do_cross(web, pick, found))


class NotBlockTest(unittest.TestCase):
    def test_ahead_of_all_else(self):
        calls = [lambda web: is_parting(web, ()), lambda web: poles(web, ()), joins, tree, lambda web: part_web(web, -7),
                 lambda web: tree_holds(web, None), lambda web: crossing(web, ()), lambda web: meeting(web, 0, 0),
                 lambda web: part_web(web, 0), lambda web: tree_holds(web, ())]
        for web in NO_BLOCKS:
            for call in calls:
                with self.assertRaises(NotBlock):
                    call(web)


if __name__ == "__main__":
    unittest.main()
