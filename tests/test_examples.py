"""Every example that the document gives for the modules that have landed, with the answers as written there."""

import unittest

from flatbonds import errors
from flatbonds.blocks import block_line, blocks, cut_spots, is_block
from flatbonds.rings import (
    bond_with, bonds, first_forest, is_bond, is_cut, is_even, ring_with, rings, sum_of, summands
)
from flatbonds.roads import ears_hold, rising_holds, roads_apart, roads_hold, stop, stop_holds
from flatbonds.texts import parse_web, web_text
from flatbonds.trees import crossing, is_firm, is_parting, joins, meeting, part_web, poles, tree, tree_holds
from flatbonds.webs import darts_at, drawn_in, is_pick, pieces, spots_of, taken_out, web_error, web_of

W = (4, ((0, 1), (0, 2), (0, 3), (1, 2), (1, 3), (2, 3)))
H = (5, ((0, 1), (1, 2), (0, 3), (2, 3), (0, 4), (2, 4)))
P = (4, ((0, 1), (0, 1), (1, 2), (2, 2), (2, 3)))
R = (5, ((0, 1), (1, 2), (2, 3), (3, 4), (0, 4), (0, 2)))


class ExamplesTest(unittest.TestCase):
    def test_webs(self):
        self.assertEqual(
            [web_error(W), web_error((2, ((0, 1), (1, 0)))), web_error((15, ())), web_error((2, [(0, 1)])),
             is_pick(W, (0, 5)), is_pick(W, (5, 0))],
            [None, (1, 'tie'), (None, 'spots'), (None, 'ties'), True, False])
        self.assertEqual(
            [spots_of(W, (0, 4)), darts_at(P, 2), pieces((4, ((1, 3),))), taken_out(W, (0, 5)), web_of(P, (2, 3))],
            [(0, 1, 3), (5, 6, 7, 8), ((0,), (1, 3), (2,)), (4, ((0, 2), (0, 3), (1, 2), (1, 3))),
             (2, ((0, 1), (1, 1)))])
        self.assertEqual(
            [drawn_in(W, 0), drawn_in(P, 3)],
            [(3, ((0, 1), (0, 2), (0, 1), (0, 2), (1, 2))), (4, ((0, 1), (0, 1), (1, 2), (2, 3)))])

    def test_texts(self):
        self.assertEqual(
            [web_text(P), parse_web("2\n0 1\n1 1")],
            ['4\n0 1\n0 1\n1 2\n2 2\n2 3', (2, ((0, 1), (1, 1)))])
        with self.assertRaises(errors.BadText) as caught:
            parse_web("2\n1 0")
        self.assertEqual(caught.exception.line, 1)

    def test_rings(self):
        self.assertEqual(
            [rings(W), rings(P), bonds(P)],
            [((0, 1, 3), (0, 1, 4, 5), (0, 2, 3, 5), (0, 2, 4), (1, 2, 3, 4), (1, 2, 5), (3, 4, 5)), ((0, 1), (3,)),
             ((0, 1), (2,), (4,))])
        self.assertEqual(
            [is_even(W, (0, 1, 2, 3, 4, 5)), is_cut(W, (0, 1, 4, 5)), is_bond(W, (0, 1, 4, 5)),
             sum_of(((0, 1, 3), (0, 2, 4))), first_forest(W), ring_with(W, 5), bond_with(W, 1),
             summands(((0, 1, 3), (0, 2, 4), (1, 2, 5)), (3, 4, 5))],
            [False, True, True, (1, 2, 3, 4), (0, 1, 2), (1, 2, 5), (1, 3, 5), (0, 1, 2)])
        with self.assertRaises(errors.InForest) as caught:
            ring_with(W, 1)
        self.assertEqual(caught.exception.tie, 1)

    def test_blocks(self):
        self.assertEqual(
            [blocks(P), cut_spots(P), is_block(P), is_block(H), block_line(P, 0, 4)],
            [((0, 1), (2,), (3,), (4,)), (1, 2), False, True, (0, 1, 3)])

    def test_roads(self):
        self.assertEqual(
            [len(roads_apart(W, 0, 3)), len(roads_apart(P, 0, 2)), stop_holds(P, 0, 3, ((1,), ())),
             stop_holds(H, 0, 2, ((1, 3, 4), ())), stop(P, 0, 1)],
            [3, 1, True, True, ((), (0, 1))])
        self.assertEqual(
            [roads_hold(W, 0, 3, ((2,), (0, 4))), ears_hold(H, 0, ((0, 1, 3, 2), (4, 5))),
             ears_hold(H, 0, ((0, 1, 3, 2), (4,))), rising_holds(W, 0, (0, 2, 3, 1)),
             rising_holds(P, 0, (0, 2, 3, 1))],
            [True, True, False, True, False])

    def test_trees(self):
        self.assertEqual(
            [joins(H), poles(H, (2, 3)), is_parting(H, (0, 2)), is_firm(W), is_firm(H), meeting(H, 0, 4),
             crossing(R, (0, 1))],
            [((2, 3), (2, 3, 4, 5), (4, 5)), (0, 2), False, True, False, (0, 2, 3), None])
        self.assertEqual(
            [tree(W), tree(H), tree(R)],
            [(('firm', (0, 1, 2, 3, 4, 5)),),
             (('ring', (-2, 0, 1)), ('ring', (-1, 2, 3)), ('bundle', (-3, -2, -1)), ('ring', (-3, 4, 5))),
             (('ring', (-2, 0, 1)), ('ring', (-1, 2, 3, 4)), ('bundle', (-2, -1, 5)))])
        self.assertEqual(
            [part_web(H, 2), part_web(R, 1), tree_holds(W, (("firm", (0, 1, 2, 3, 4)),))],
            [(2, ((0, 1), (0, 1), (0, 1))), (4, ((0, 1), (1, 2), (2, 3), (0, 3))), False])
        with self.assertRaises(errors.NoPart) as caught:
            part_web(H, 7)
        self.assertEqual(caught.exception.number, 7)
        with self.assertRaises(errors.NotBlock):
            joins(P)


if __name__ == "__main__":
    unittest.main()
