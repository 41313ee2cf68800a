"""[A4]: webs of up to 60 spots and 60 ties are ordinary inputs, and no call keeps a caller waiting long."""

import random
import time
import unittest

from flatbonds.blocks import blocks, is_block
from flatbonds.errors import TooMany
from flatbonds.rings import bonds, is_bond, is_ring, rings
from flatbonds.trees import tree
from flatbonds.webs import drawn_in
from samples import far_webs, random_block, random_web
from test_conventions import answer, calls_for

LONG = 2


class FarWebsTest(unittest.TestCase):
    def check_time(self, web, rng):
        for call, named in calls_for(web, rng):
            begun = time.perf_counter()
            answer(call, named)
            self.assertLess(time.perf_counter() - begun, LONG, call.__name__)

    def test_no_call_is_slow(self):
        rng = random.Random(80)
        webs = list(far_webs().values())
        for spots in (2, 5, 10, 15, 20, 25, 30, 35, 40, 45, 50, 55, 59, 60):
            webs.append(random_web(rng, spots, 60))
            webs.append(random_block(rng, min(spots, 59), 60))
        for web in webs:
            self.check_time(web, rng)

    def test_lists_of_far_webs(self):
        listed = 0
        for web in far_webs().values():
            for call, holds in ((rings, is_ring), (bonds, is_bond)):
                try:
                    found = call(web)
                except TooMany:
                    continue
                listed += 1
                self.assertLessEqual(len(found), 1000)
                self.assertEqual(list(found), sorted(set(found)))
                self.assertTrue(all(holds(web, each) for each in found[::7]))
        self.assertGreater(listed, 20)

    def test_blocks_by_rings(self):
        for web in far_webs().values():
            try:
                found = rings(web)
            except TooMany:
                continue
            group = {tie: {tie} for tie in range(len(web[1]))}
            for ring in found:
                for tie in ring:
                    group[tie] |= set(ring)
            self.assertEqual(blocks(web), tuple(sorted({tuple(sorted(row)) for row in group.values()})))

    def test_somewhat_beyond(self):
        rng = random.Random(81)
        web = random_block(rng, 90, 100)
        self.check_time(web, rng)
        self.assertTrue(is_block(web))
        self.assertEqual(sum(len([tie for tie in members if tie >= 0]) for _, members in tree(web)), 100)
        for _ in range(50):
            web = drawn_in(web, rng.randrange(len(web[1])))
        self.assertEqual((len(web[1]), web[0] >= 40), (50, True))


if __name__ == "__main__":
    unittest.main()
