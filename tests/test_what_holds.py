"""[A2]: what holds over the whole program, of webs that boards have made by edits, too."""

import random
import unittest
from itertools import combinations
from math import prod

import plain
from boarding import drawn_edit, outcome
from flatbonds.blocks import is_block
from flatbonds.boards import Board, FlatBoard
from flatbonds.layings import all_layings, filled, how_many, is_flat, lay, thinned
from flatbonds.leads import lead
from flatbonds.moves import back, moved, way_holds, way
from flatbonds.opposites import by_basis, by_opposite, flat_basis, is_opposite, opposite
from flatbonds.papers import (
    forbidden, is_outer, is_two_road, outer_paper, paper_holds, two_road_paper, unwoven, unwoven_holds
)
from flatbonds.rings import bonds, is_cut, is_even, parted, rings
from flatbonds.roads import ears, ears_hold, rising, rising_holds, roads_apart, roads_hold, stop, stop_holds
from flatbonds.trees import crossing, is_parting, joins, tree, tree_holds
from flatbonds.twists import changed, form_way, form_way_holds, ring_form, same_rings
from flatbonds.webs import pieces, spots_of
from samples import F, H, P, R, T, W, drawn_order, small_blocks, wheel


def edited_webs(seed, many, ties=9):
    """Webs with a few ties that boards have come to by edits, and what they came by."""
    rng = random.Random(seed)
    found = []
    while len(found) < many:
        board = Board(rng.choice([W, H, P, R, F, T, wheel(4), (rng.randint(1, 6), ())]))
        for _ in range(rng.randint(1, 14)):
            edit = drawn_edit(rng, board.web, 0)
            outcome(getattr(board, edit[0]), *edit[1:])
        if len(board) <= ties and board.web[0] < 9:
            found.append(board.web)
    return found


class WhatHoldsTest(unittest.TestCase):
    def setUp(self):
        self.webs = edited_webs(700, 60) + [W, H, P, R, F, T]

    def test_a_laying_or_a_paper(self):
        for web in self.webs:
            paper = forbidden(web)
            self.assertEqual(lay(web) is None, paper is not None)
            if paper is None:
                self.assertTrue(is_flat(web, lay(web)))
                self.assertEqual(how_many(web), plain.how_many(web))
                if how_many(web) <= 1000:
                    self.assertEqual(len(all_layings(web)), how_many(web))
            else:
                self.assertTrue(paper_holds(web, paper) and paper[0] in ("five", "six"))
                self.assertEqual((how_many(web), all_layings(web)), (0, ()))

    def test_b_one_tree_and_partings(self):
        for web in small_blocks(701, 30, 6, 8):
            self.assertTrue(tree_holds(web, tree(web)))
            known = joins(web)
            for pick in plain.partings(web):
                self.assertTrue(is_parting(web, pick))
                self.assertEqual(crossing(web, pick) is None, pick in known)
            self.assertEqual(tree(web), plain.tree(web))

    def test_c_sums_of_rings_and_bonds(self):
        for web in self.webs:
            if len(web[1]) > 7:
                continue
            picks = plain.all_picks(web)
            even, cuts = [pick for pick in picks if is_even(web, pick)], [pick for pick in picks if is_cut(web, pick)]
            self.assertEqual(len(even), 2 ** (len(web[1]) - web[0] + len(pieces(web))))
            self.assertEqual(len(cuts), 2 ** (web[0] - len(pieces(web))))
            for chosen, known in ((even, rings(web)), (cuts, bonds(web))):
                for pick in chosen:
                    rows = parted(web, pick)
                    self.assertEqual(sorted(tie for row in rows for tie in row), list(pick))
                    if chosen is even or pick not in even:
                        self.assertTrue(all(row in known for row in rows))
            for pick in even[:20]:
                self.assertTrue(all(len(set(pick) & set(cut)) % 2 == 0 for cut in cuts))

    def test_d_moves(self):
        rng = random.Random(702)
        tried = 0
        for web in self.webs:
            if not web[1] or len(pieces(web)) > 1 or len(web[1]) > 7 or not 0 < how_many(web) <= 150:
                continue
            tried += 1
            known = all_layings(web)
            for _ in range(3):
                laying, last = rng.choice(known), rng.choice(known)
                moves = way(web, laying, last)
                self.assertTrue(way_holds(web, laying, last, moves))
                for move in moves:
                    further = moved(web, laying, move)
                    self.assertIn(further, known)
                    self.assertEqual(moved(web, further, back(web, laying, move)), laying)
                    laying = further
        self.assertGreater(tried, 10)

    def test_e_the_same_rings(self):
        alike = 0
        for web, other in combinations(self.webs + edited_webs(706, 60, 4), 2):
            if len(web[1]) == len(other[1]):
                told = same_rings(web, other)
                self.assertEqual(told, rings(web) == rings(other))
                self.assertEqual(told, bonds(web) == bonds(other))
                self.assertEqual(told, ring_form(web) == ring_form(other))
                alike += told
        self.assertGreater(alike, 5)
        for web in self.webs:
            self.assertTrue(form_way_holds(web, form_way(web)))
            for change in form_way(web):
                further = changed(web, change)
                self.assertTrue(same_rings(web, further))
                web = further

    def test_f_opposites(self):
        for web in self.webs:
            basis = flat_basis(web)
            self.assertEqual(basis is None, lay(web) is None)
            if basis is None:
                continue
            found = [by_basis(web, basis)]
            if len(pieces(web)) == 1:
                found.append(opposite(web, lay(web)))
            for other in found:
                self.assertTrue(is_opposite(web, other) and is_opposite(other, web))
                self.assertEqual((rings(web), bonds(web)), (bonds(other), rings(other)))
                self.assertTrue(same_rings(other, found[0]))
                if is_block(web) and is_block(other):
                    laying = by_opposite(web, other)
                    self.assertTrue(is_flat(web, laying))
                    self.assertIsNotNone(lead(opposite(web, laying), other))

    def test_f_no_web_is_opposite_to_one_without_a_flat_laying(self):
        rng = random.Random(703)
        for web in (F, T):
            for other in edited_webs(703, 200, 14):
                if len(other[1]) == len(web[1]):
                    self.assertFalse(is_opposite(web, other))
            for _ in range(20):
                self.assertFalse(is_opposite(web, drawn_order(rng, web)))

    def test_g_outer_and_woven_of_two_roads(self):
        for web in self.webs:
            paper = outer_paper(web)
            self.assertEqual(is_outer(web), paper is None)
            self.assertTrue(paper is None or paper_holds(web, paper) and paper[0] in ("four", "two"))
            paper = two_road_paper(web)
            self.assertEqual(is_two_road(web), paper is None)
            self.assertTrue(paper is None or paper_holds(web, paper) and paper[0] == "four")
            steps = unwoven(web)
            self.assertEqual(is_two_road(web), steps is not None)
            self.assertTrue(steps is None or unwoven_holds(web, steps))

    def test_h_roads_and_ears(self):
        for web in self.webs:
            for spot, last in combinations(range(web[0]), 2):
                roads, halt = roads_apart(web, spot, last), stop(web, spot, last)
                self.assertTrue(roads_hold(web, spot, last, roads) and stop_holds(web, spot, last, halt))
                self.assertEqual(len(roads), len(halt[0]) + len(halt[1]))
            if web[1] and len(spots_of(web, tuple(range(len(web[1]))))) == web[0]:
                for tie in range(len(web[1])):
                    if is_block(web):
                        self.assertTrue(ears_hold(web, tie, ears(web, tie)))
                        self.assertTrue(rising_holds(web, tie, rising(web, tie)))
                    else:
                        self.assertIsNone(plain.all_ears(web, tie))

    def test_i_thinned_and_filled(self):
        rng = random.Random(704)
        for web in self.webs:
            laying = lay(web)
            if laying is None:
                continue
            pick = tuple(tie for tie in range(len(web[1])) if rng.random() < 0.5)
            self.assertTrue(is_flat(plain.without(web, pick), thinned(web, laying, pick)))
            plain_ties = {ends for ends in web[1] if ends[0] != ends[1]}
            if web[0] > 2 and len(plain_ties) == len(web[1]):
                self.assertEqual(len(filled(web)[1]), 3 * web[0] - 6)

    def test_i_edits_that_are_taken_back(self):
        rng = random.Random(705)
        for web in self.webs:
            for kind in (Board, FlatBoard):
                if kind is FlatBoard and lay(web) is None:
                    continue
                board, first = kind(web), kind(web)
                for _ in range(10):
                    edit = drawn_edit(rng, board.web)
                    outcome(getattr(board, edit[0]), *edit[1:])
                    self.assertTrue(kind is Board or is_flat(board.web, board.laying))
                    outcome(rng.choice([board.undo, board.redo, lambda: None]))
                while board.version:
                    board.undo()
                self.assertEqual((board.web, board.laying, board.version, board.count(), board.at(0), board.paper()),
                                 (web, first.laying, 0, first.count(), web, first.paper()))
                # What is done from then on does not tell whether there had been edits.
                for _ in range(6):
                    edit = drawn_edit(rng, board.web)
                    told = outcome(getattr(board, edit[0]), *edit[1:])
                    self.assertEqual(told, outcome(getattr(first, edit[0]), *edit[1:]))
                    self.assertEqual((board.web, board.laying, board.version), (first.web, first.laying, first.version))

    def test_numbers_are_not_too_great(self):
        for web in ((14, ((0, 0),) * 28), (2, ((0, 1),) * 28), (1, ((0, 0),) * 60), (2, ((0, 1),) * 60)):
            self.assertLess(how_many(web), 10 ** 150)
        board = Board((14, ((0, 0),) * 28))
        self.assertEqual(board.count(), 2 ** 28 * prod(range(30, 56)))
        self.assertEqual(board.news(), (board.count(),) * 2)


if __name__ == "__main__":
    unittest.main()
