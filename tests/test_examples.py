"""Every example that the document gives for the modules that have landed, with the answers as written there."""

import unittest

from flatbonds import errors
from flatbonds.blocks import block_line, blocks, cut_spots, is_block
from flatbonds.boards import Board, FlatBoard
from flatbonds.layings import (
    all_layings, at_face, faces, filled, how_many, is_flat, laying_error, open_pairs, over, sides, thinned
)
from flatbonds.leads import laying_code, lead, lead_holds, own_leads, unlike_layings
from flatbonds.moves import is_loose, moved, moves_between
from flatbonds.opposites import basis_holds, by_basis, flat_basis, is_opposite, opposite
from flatbonds.papers import bare, fewest_out, is_outer, is_two_road, paper_holds, two_road_paper, unwoven_holds
from flatbonds.rings import (
    bond_with, bonds, first_forest, is_bond, is_cut, is_even, ring_with, rings, sum_of, summands
)
from flatbonds.roads import ears_hold, rising_holds, roads_apart, roads_hold, stop, stop_holds
from flatbonds.shells import Shell
from flatbonds.texts import parse_web, web_text
from flatbonds.trees import crossing, is_firm, is_parting, joins, meeting, part_web, poles, tree, tree_holds
from flatbonds.twists import as_ties, changed, least_spots, ring_form, ring_of_web, same_rings
from flatbonds.webs import darts_at, drawn_in, is_pick, pieces, spots_of, taken_out, web_error, web_of

W = (4, ((0, 1), (0, 2), (0, 3), (1, 2), (1, 3), (2, 3)))
H = (5, ((0, 1), (1, 2), (0, 3), (2, 3), (0, 4), (2, 4)))
P = (4, ((0, 1), (0, 1), (1, 2), (2, 2), (2, 3)))
R = (5, ((0, 1), (1, 2), (2, 3), (3, 4), (0, 4), (0, 2)))
L = ((0, 2, 4), (1, 8, 6), (3, 7, 10), (5, 11, 9))
F = (5, ((0, 1), (0, 2), (0, 3), (0, 4), (1, 2), (1, 3), (1, 4), (2, 3), (2, 4), (3, 4)))
N = ((0, 2), (1, 3, 4), (5, 6, 7, 8), (9,))
Q = (4, ((0, 1), (0, 1), (1, 2), (0, 0), (1, 3)))


class ExamplesTest(unittest.TestCase):
    def test_webs(self):
        self.assertEqual(
            [web_error(W), web_error((2, ((0, 1), (1, 0)))), web_error((15, ())), web_error((2, [(0, 1)])),
             is_pick(W, (0, 5)), is_pick(W, (5, 0))],
            [None, (1, 'tie'), (None, 'spots'), (None, 'ties'), True, False])
        self.assertEqual(
            [spots_of(W, (0, 4)), darts_at(P, 2), pieces((4, ((1, 3),))), taken_out(W, (0, 5)), web_of(P, (2, 3))],
            [(0, 1, 3), (5, 6, 7, 8), ((0,), (1, 3), (2,)), (4, ((0, 2), (0, 3), (1, 2), (1, 3))),
             (2, ((0, 1), (1, 1)))])
        self.assertEqual(
            [drawn_in(W, 0), drawn_in(P, 3)],
            [(3, ((0, 1), (0, 2), (0, 1), (0, 2), (1, 2))), (4, ((0, 1), (0, 1), (1, 2), (2, 3)))])

    def test_texts(self):
        self.assertEqual(
            [web_text(P), parse_web("2\n0 1\n1 1")],
            ['4\n0 1\n0 1\n1 2\n2 2\n2 3', (2, ((0, 1), (1, 1)))])
        with self.assertRaises(errors.BadText) as caught:
            parse_web("2\n1 0")
        self.assertEqual(caught.exception.line, 1)

    def test_rings(self):
        self.assertEqual(
            [rings(W), rings(P), bonds(P)],
            [((0, 1, 3), (0, 1, 4, 5), (0, 2, 3, 5), (0, 2, 4), (1, 2, 3, 4), (1, 2, 5), (3, 4, 5)), ((0, 1), (3,)),
             ((0, 1), (2,), (4,))])
        self.assertEqual(
            [is_even(W, (0, 1, 2, 3, 4, 5)), is_cut(W, (0, 1, 4, 5)), is_bond(W, (0, 1, 4, 5)),
             sum_of(((0, 1, 3), (0, 2, 4))), first_forest(W), ring_with(W, 5), bond_with(W, 1),
             summands(((0, 1, 3), (0, 2, 4), (1, 2, 5)), (3, 4, 5))],
            [False, True, True, (1, 2, 3, 4), (0, 1, 2), (1, 2, 5), (1, 3, 5), (0, 1, 2)])
        with self.assertRaises(errors.InForest) as caught:
            ring_with(W, 1)
        self.assertEqual(caught.exception.tie, 1)

    def test_blocks(self):
        self.assertEqual(
            [blocks(P), cut_spots(P), is_block(P), is_block(H), block_line(P, 0, 4)],
            [((0, 1), (2,), (3,), (4,)), (1, 2), False, True, (0, 1, 3)])

    def test_roads(self):
        self.assertEqual(
            [len(roads_apart(W, 0, 3)), len(roads_apart(P, 0, 2)), stop_holds(P, 0, 3, ((1,), ())),
             stop_holds(H, 0, 2, ((1, 3, 4), ())), stop(P, 0, 1)],
            [3, 1, True, True, ((), (0, 1))])
        self.assertEqual(
            [roads_hold(W, 0, 3, ((2,), (0, 4))), ears_hold(H, 0, ((0, 1, 3, 2), (4, 5))),
             ears_hold(H, 0, ((0, 1, 3, 2), (4,))), rising_holds(W, 0, (0, 2, 3, 1)),
             rising_holds(P, 0, (0, 2, 3, 1))],
            [True, True, False, True, False])

    def test_trees(self):
        self.assertEqual(
            [joins(H), poles(H, (2, 3)), is_parting(H, (0, 2)), is_firm(W), is_firm(H), meeting(H, 0, 4),
             crossing(R, (0, 1))],
            [((2, 3), (2, 3, 4, 5), (4, 5)), (0, 2), False, True, False, (0, 2, 3), None])
        self.assertEqual(
            [tree(W), tree(H), tree(R)],
            [(('firm', (0, 1, 2, 3, 4, 5)),),
             (('ring', (-2, 0, 1)), ('ring', (-1, 2, 3)), ('bundle', (-3, -2, -1)), ('ring', (-3, 4, 5))),
             (('ring', (-2, 0, 1)), ('ring', (-1, 2, 3, 4)), ('bundle', (-2, -1, 5)))])
        self.assertEqual(
            [part_web(H, 2), part_web(R, 1), tree_holds(W, (("firm", (0, 1, 2, 3, 4)),))],
            [(2, ((0, 1), (0, 1), (0, 1))), (4, ((0, 1), (1, 2), (2, 3), (0, 3))), False])
        with self.assertRaises(errors.NoPart) as caught:
            part_web(H, 7)
        self.assertEqual(caught.exception.number, 7)
        with self.assertRaises(errors.NotBlock):
            joins(P)

    def test_layings(self):
        self.assertEqual(
            [laying_error(W, L), laying_error(W, ((0, 2, 4), (8, 6, 1), (3, 7, 10), (5, 11, 9))), faces(W, L),
             is_flat(W, L), over(W, L)],
            [None, (1, 'turn'), ((0, 8, 5), (1, 2, 7), (3, 4, 11), (6, 10, 9)), True,
             ((0, 4, 2), (1, 6, 8), (3, 10, 7), (5, 9, 11))])
        self.assertEqual(
            [how_many(W), how_many(H), how_many(P), how_many(F), all_layings(W) == (L, over(W, L)), sides(W, L, 0),
             at_face(W, L, (0, 1, 2)), thinned(W, L, (5,))],
            [2, 2, 12, 0, True, (0, 1), 1, ((0, 2, 4), (1, 8, 6), (3, 7), (5, 9))])
        self.assertEqual(
            [open_pairs((3, ((0, 1),))), open_pairs(F), filled(W) == W, len(filled(H)[1]),
             len(filled((5, F[1][1:]))[1])],
            [((0, 1), (0, 2), (1, 2)), (), True, 9, 9])

    def test_papers(self):
        paper = ("five", (0, 1, 2, 3, 4), ((0,), (1,), (2,), (3,), (4,), (5,), (6,), (7,), (8,), (9,)))
        self.assertEqual(
            [paper_holds(F, paper), bare(F), bare(W), fewest_out(F), fewest_out(W)],
            [True, (0, 1, 2, 3, 4, 5, 6, 7, 8, 9), None, (0,), ()])
        self.assertEqual(
            [paper_holds(H, ("two", (0, 2, 1, 3, 4), ((0,), (2,), (4,), (1,), (3,), (5,)))), is_outer(H), is_outer(P),
             is_two_road(W), is_two_road(H), two_road_paper(H)],
            [True, False, True, False, True, None])
        self.assertEqual(
            unwoven_holds(H, (("through", 0), ("through", 2), ("beside", 1), ("through", 4), ("beside", 3), ("end", 5))),
            True)

    def test_moves(self):
        self.assertEqual(
            [moved(P, N, ("hop", (3,), 8)), moved(P, N, ("flip", (0, 1))), is_loose(P, N, (3,)), is_loose(P, N, (2, 4)),
             moves_between(W, L, over(W, L))],
            [((0, 2), (1, 3, 4), (5, 8, 6, 7), (9,)), ((0, 2), (1, 4, 3), (5, 6, 7, 8), (9,)), True, True, 1])
        with self.assertRaises(errors.BadMove):
            moved(P, N, ("hop", (0, 1), 0))

    def test_twists(self):
        self.assertEqual(
            [changed(R, ("twist", (0, 1))), changed(P, ("split", (0, 1))),
             changed((5, ((0, 4), (0, 4), (1, 2), (2, 2), (2, 3))), ("glue", 1, 4)) == P,
             changed((3, ((0, 2),)), ("names", (0, None, 1)))],
            [(5, ((1, 2), (0, 1), (2, 3), (3, 4), (0, 4), (0, 2))), (5, ((0, 4), (0, 4), (1, 2), (2, 2), (2, 3))), True,
             (2, ((0, 1),))])
        self.assertEqual(
            [same_rings(P, Q), ring_form(P) == ring_form(Q), as_ties(P, (4, 3, 2, 1, 0)), least_spots(P),
             rings(ring_of_web(3, ((0, 1, 2),))), ring_of_web(3, ((0, 1), (0, 2)))],
            [True, True, (4, ((2, 3), (2, 2), (1, 2), (0, 1), (0, 1))), 4, ((0, 1, 2),), None])
        with self.assertRaises(errors.BadChange):
            changed(P, ("twist", (3,)))

    def test_opposites(self):
        self.assertEqual(
            [opposite(W, L), is_opposite(W, opposite(W, L)), is_opposite(W, W), opposite((1, ()), ((),))],
            [(4, ((0, 1), (1, 2), (0, 2), (1, 3), (0, 3), (2, 3))), True, False, (1, ())])
        self.assertEqual(
            [basis_holds(W, ((0, 1, 3), (0, 2, 4), (1, 2, 5))), by_basis(W, ((0, 1, 3), (0, 2, 4), (1, 2, 5))),
             flat_basis(F)],
            [True, (4, ((0, 1), (0, 2), (1, 2), (0, 3), (1, 3), (2, 3))), None])

    def test_leads(self):
        self.assertEqual(
            [lead_holds(W, W, ((1, 0, 2, 3), (0, 3, 4, 1, 2, 5))), len(own_leads(W)), unlike_layings(W), lead(W, H),
             laying_code(W, L) == laying_code(W, over(W, L))],
            [True, 24, 1, None, True])

    def test_boards(self):
        b = Board((3, ((0, 1), (1, 2))))
        self.assertEqual(
            [b.tie(2, 0), b.web, b.count(), b.news(), b.version, len(b), (0, 2) in b, str(b)],
            [1, (3, ((0, 1), (1, 2), (0, 2))), 1, (1, 1), 1, 3, True, '3\n0 1\n1 2\n0 2'])
        self.assertEqual(
            [b.spot(), b.cut(0), b.web, b.undo(), b.version, b.at(0), b.blocks()],
            [2, 3, (4, ((1, 2), (0, 2))), 2, 2, (3, ((0, 1), (1, 2))), ((0, 1, 2),)])
        with self.assertRaises(errors.Rejected) as caught:
            b.batch((("tie", 0, 3), ("cut", 9)))
        self.assertEqual(caught.exception.index, 1)
        self.assertEqual(
            [b.batch((("tie", 3, 0), ("draw", 0))), b.web, b.news(), FlatBoard(W) == Board(W)],
            [3, (3, ((0, 1), (0, 1), (0, 2))), (1, 2), True])

    def test_shells(self):
        s = Shell()
        self.assertEqual(
            [s.say("count"), s.say("new 3"), s.say("tie 0 1"), s.say("tie 1 0"), s.say("kinds"), s.say("flat"),
             s.say("count"), s.say("parts"), s.say("web"), s.say("draw 5"), s.say("tie 0")],
            ['no board', 'ok', 'version 1', 'version 2', 'no NotBlock', 'yes', '1', '1', '3 / 0 1 / 0 1', 'no NoTie',
             'what'])


if __name__ == "__main__":
    unittest.main()
