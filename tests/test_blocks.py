"""[C1] and [C2]: blocks, cut spots, rows of blocks."""

import random
import unittest

from flatbonds.blocks import block_line, blocks, cut_spots, is_block
import plain
from samples import (
    BARE, F, H, LINE, LOOP, P, R, W, beside_one_another, bundle, chain_of, full, path, random_web, ring, small_blocks,
    small_webs, tied_on, with_loops, with_spots
)


def all_lines(known, start, goal):
    """All shortest rows of blocks from start to goal, of the pairs of places that meet."""
    rows = [(start,)]
    for _ in range(60):
        done = sorted(row for row in rows if row[-1] == goal)
        if done:
            return done
        rows = [(*row, further) for row in rows for further in known if (row[-1], further) in known[further]
                and further not in row]
    return []


class BlocksTest(unittest.TestCase):
    def test_small_webs(self):
        for web in small_webs(30, 250):
            known = plain.blocks(web)
            self.assertEqual(blocks(web), known)
            cut = [spot for spot in range(web[0]) if sum(spot in plain.spots_of(web, block) for block in known) > 1]
            self.assertEqual(cut_spots(web), tuple(cut))
            self.assertIs(is_block(web), plain.is_block(web))

    def test_small_blocks(self):
        for web in small_blocks(31, 60):
            self.assertEqual(blocks(web), (tuple(range(len(web[1]))),))
            self.assertEqual(cut_spots(web), ())
            self.assertIs(is_block(web), True)

    def test_known_ones(self):
        self.assertEqual([blocks(BARE), cut_spots(BARE), is_block(BARE)], [(), (), False])
        self.assertEqual([blocks(LOOP), cut_spots(LOOP), is_block(LOOP)], [((0,),), (), True])
        self.assertEqual([blocks(LINE), is_block(LINE), is_block(with_spots(LINE, 3))], [((0,),), True, False])
        self.assertEqual([is_block(web) for web in (W, H, R, F, P, bundle(2), bundle(60))], [True] * 4 + [False] + [True] * 2)
        self.assertEqual([blocks(with_loops(LOOP, 2)), cut_spots(with_loops(LOOP, 2))], [((0,), (1,), (2,)), (0,)])
        self.assertEqual(is_block(with_loops(W, 1)), False)
        self.assertEqual([cut_spots((2, ((0, 1), (1, 1)))), cut_spots((3, ((0, 0), (0, 0), (1, 2))))], [(1,), (0,)])
        self.assertEqual(is_block(beside_one_another(W, W)), False)

    def test_far_webs(self):
        self.assertEqual(blocks(path(60)), tuple((tie,) for tie in range(59)))
        self.assertEqual(cut_spots(path(60)), tuple(range(1, 59)))
        self.assertEqual(blocks(chain_of(30, 2)), tuple((2 * at, 2 * at + 1) for at in range(30)))
        self.assertEqual(is_block(ring(60)), True)
        self.assertEqual(is_block(with_spots(full(11), 12)), False)
        self.assertEqual(cut_spots(tied_on(full(7), full(7), 3)), (3,))


class BlockLineTest(unittest.TestCase):
    def check_web(self, web):
        masks = [plain.spots_of(web, block) for block in plain.blocks(web)]
        places = range(len(masks))
        known = {further: {(at, further) for at in places if at != further and masks[at] & masks[further]}
                 for further in places}
        home = {tie: place for place, block in enumerate(plain.blocks(web)) for tie in block}
        for tie in home:
            for last in home:
                lines = all_lines(known, home[tie], home[last])
                self.assertEqual(block_line(web, tie, last), lines[0] if lines else None)

    def test_small_webs(self):
        for web in small_webs(32, 120, 6, 6):
            self.check_web(web)

    def test_webs_of_many_blocks(self):
        rng = random.Random(33)
        for _ in range(40):
            self.check_web(random_web(rng, 7, 7))

    def test_the_first_one_of_several(self):
        # Three blocks meet at spot 1, and three at spot 2: the line goes through one of them alone.
        web = (4, ((0, 1), (2, 3), (1, 2), (1, 1), (2, 2)))
        self.assertEqual(blocks(web), ((0,), (1,), (2,), (3,), (4,)))
        self.assertEqual(block_line(web, 0, 1), (0, 2, 1))
        self.assertEqual(block_line(web, 3, 4), (3, 2, 4))
        self.assertEqual(block_line(web, 0, 0), (0,))
        self.assertEqual(block_line(web, 0, 3), (0, 3))

    def test_none(self):
        web = beside_one_another(LINE, LOOP)
        self.assertIsNone(block_line(web, 0, 1))
        self.assertIsNone(block_line(web, 1, 0))
        self.assertEqual(block_line(web, 1, 1), (1,))

    def test_far_webs(self):
        self.assertEqual(block_line(path(60), 0, 58), tuple(range(59)))
        self.assertEqual(block_line(path(60), 58, 0), tuple(range(59))[::-1])
        self.assertEqual(block_line(ring(60), 3, 50), (0,))


if __name__ == "__main__":
    unittest.main()
