"""No call may keep a caller waiting: how long many calls take together, with much room for slow machines."""

import random
import time
import unittest

from flatbonds.blocks import is_block
from flatbonds.errors import TooMany
from flatbonds.layings import all_layings, filled, how_many, lay, open_pairs, over
from flatbonds.moves import moves_between, way
from flatbonds.papers import bare, fewest_out, forbidden, is_outer, outer_paper, two_road_paper, unwoven
from flatbonds.rings import bonds, rings
from flatbonds.trees import crossing, joins, meeting, part_web, tree, tree_holds
from flatbonds.twists import form_way, form_way_holds, ring_form, rings_part, same_rings
from flatbonds.webs import pieces
from samples import (
    LINE, P, beside_one_another, bundle, cubic_web, drawn_order, drawn_parts, fan_of_paths, far_webs, flat_web, ladder,
    path, random_block, random_web, ring, small_webs, tied_on, wheel
)
from test_conventions import answer

OF_ALL = [lay, how_many, all_layings, open_pairs, filled, forbidden, bare, fewest_out, is_outer, outer_paper,
          two_road_paper, unwoven, ring_form, form_way]


def seconds(calls):
    """How long the calls, pairs of a function and its arguments, take together; errors of the package are passed by."""
    begun = time.perf_counter()
    for call, worths in calls:
        answer(lambda: call(*worths), {})
    return time.perf_counter() - begun


class SpeedTest(unittest.TestCase):
    def test_trees_of_long_rings(self):
        rng = random.Random(170)
        webs = [drawn_order(rng, ring(60)) for _ in range(100)]
        for call in (tree, joins):
            self.assertLess(seconds([(call, (web,)) for web in webs]), 2)
        self.assertLess(seconds([(part_web, (web, 0)) for web in webs]), 2)
        self.assertLess(seconds([(tree_holds, (web, (("ring", tuple(range(60))),))) for web in webs]), 2)
        self.assertLess(seconds([(meeting, (web, 3, 50)) for web in webs]), 2)
        at_seven = [(web, tuple(tie for tie, ends in enumerate(web[1]) if 7 in ends)) for web in webs]
        self.assertLess(seconds([(crossing, worths) for worths in at_seven]), 2)

    def test_trees_of_what_is_put_together(self):
        rng = random.Random(171)
        webs = [drawn_parts(rng, 60) for _ in range(100)] + [wheel(30), ladder(20), bundle(60), fan_of_paths(10, 6)]
        self.assertLess(seconds([(tree, (web,)) for web in webs]), 3)
        webs = [random_block(rng, rng.randint(2, 13), 14) for _ in range(300)]
        self.assertLess(seconds([(tree, (web,)) for web in webs if is_block(web)]), 2)

    def test_about_a_thousand_bonds(self):
        rng = random.Random(172)
        webs = [ring(45), tied_on(ring(45), path(11)), tied_on(ring(46), path(11)), ring(44), fan_of_paths(8, 2),
                fan_of_paths(9, 2), fan_of_paths(10, 2), beside_one_another(ring(45), ring(5)),
                beside_one_another(ring(45), ring(5), LINE), tied_on(ring(40), ring(20))]
        webs = [drawn_order(rng, web) for web in webs for _ in range(10)]
        self.assertEqual(len(webs), 100)
        self.assertLess(seconds([(bonds, (web,)) for web in webs]), 3)
        with self.assertRaises(TooMany):
            bonds(webs[25])
        webs = small_webs(172, 500, 8, 8)
        self.assertLess(seconds([(bonds, (web,)) for web in webs]), 2)

    def test_about_a_thousand_rings(self):
        rng = random.Random(176)
        webs = [wheel(30), wheel(20), bundle(45), bundle(46), fan_of_paths(30, 2), ladder(20), random_web(rng, 50, 60),
                random_web(rng, 30, 60), cubic_web(rng, 40), random_block(rng, 50, 60)]
        webs = [drawn_order(rng, web) for web in webs for _ in range(10)]
        self.assertLess(seconds([(rings, (web,)) for web in webs]), 5)

    def test_small_webs(self):
        webs = small_webs(173, 200, 8, 8)
        for call in OF_ALL:
            if call is not all_layings:
                self.assertLess(seconds([(call, (web,)) for web in webs]), 2, call.__name__)
        few = [web for web in webs if how_many(web) <= 150]
        self.assertLess(seconds([(all_layings, (web,)) for web in few]), 2)
        rng = random.Random(173)
        ways = []
        for web in few:
            if how_many(web) and web[1] and len(web[1]) < 8 and len(pieces(web)) == 1:
                known = all_layings(web)
                ways.append((web, rng.choice(known), rng.choice(known)))
        self.assertGreater(len(ways), 30)
        for call in (way, moves_between):
            self.assertLess(seconds([(call, worths) for worths in ways]), 2)
        most = bundle(6)
        self.assertLess(seconds([(way, (most, laying, over(most, lay(most)))) for laying in all_layings(most)]), 6)

    def test_far_webs(self):
        rng = random.Random(174)
        webs = list(far_webs().values()) + [cubic_web(rng, 40) for _ in range(5)]
        webs += [flat_web(rng, spots, 60) for spots in (22, 30, 40, 50, 60)]
        webs += [random_web(rng, spots, 60) for spots in range(5, 60, 6)] + [drawn_parts(rng, 60) for _ in range(10)]
        for call in OF_ALL:
            self.assertLess(seconds([(call, (web,)) for web in webs]), 6, call.__name__)
        for call in (same_rings, rings_part):
            self.assertLess(seconds([(call, (web, (web[0], web[1][::-1]))) for web in webs]), 3)
        self.assertLess(seconds([(form_way_holds, (web, form_way(web))) for web in webs]), 3)

    def test_a_thousand_layings(self):
        ten = tied_on(wheel(5), LINE)
        webs = [beside_one_another(ten, ten, ten), tied_on(ladder(10), path(5)), bundle(7), ladder(11),
                tied_on(tied_on(wheel(8), wheel(8)), path(3)), tied_on(tied_on(tied_on(P, P), LINE), LINE)]
        webs = [web for web in webs if how_many(web) <= 1000]
        self.assertGreater(len(webs), 3)
        self.assertLess(seconds([(all_layings, (web,)) for web in webs for _ in range(5)]), 6)


if __name__ == "__main__":
    unittest.main()
