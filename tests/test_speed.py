"""No call may keep a caller waiting: how long many calls take together, with much room for slow machines."""

import random
import time
import unittest

from boarding import drawn_edit, outcome
from flatbonds.blocks import is_block
from flatbonds.boards import Board, FlatBoard
from flatbonds.errors import TooMany
from flatbonds.layings import all_layings, filled, how_many, lay, open_pairs, over
from flatbonds.leads import laying_code, laying_lead, lead, own_leads, unlike_layings
from flatbonds.moves import moves_between, way
from flatbonds.opposites import by_basis, by_opposite, flat_basis, is_opposite, opposite
from flatbonds.papers import bare, fewest_out, forbidden, is_outer, outer_paper, two_road_paper, unwoven
from flatbonds.rings import bonds, rings
from flatbonds.shells import Shell
from flatbonds.trees import crossing, joins, meeting, part_web, tree, tree_holds
from flatbonds.twists import form_way, form_way_holds, ring_form, rings_part, same_rings
from flatbonds.webs import pieces
from samples import (
    LINE, P, beside_one_another, bundle, cubic_web, drawn_order, drawn_parts, fan_of_paths, far_webs, flat_web, ladder,
    path, prism, random_block, random_web, ring, small_webs, tied_on, wheel
)
from test_conventions import answer

OF_ALL = [lay, how_many, all_layings, open_pairs, filled, forbidden, bare, fewest_out, is_outer, outer_paper,
          two_road_paper, unwoven, ring_form, form_way]


def seconds(calls):
    """How long the calls, pairs of a function and its arguments, take together; errors of the package are passed by."""
    begun = time.perf_counter()
    for call, worths in calls:
        answer(lambda: call(*worths), {})
    return time.perf_counter() - begun


class SpeedTest(unittest.TestCase):
    def test_trees_of_long_rings(self):
        rng = random.Random(170)
        webs = [drawn_order(rng, ring(60)) for _ in range(100)]
        for call in (tree, joins):
            self.assertLess(seconds([(call, (web,)) for web in webs]), 2)
        self.assertLess(seconds([(part_web, (web, 0)) for web in webs]), 2)
        self.assertLess(seconds([(tree_holds, (web, (("ring", tuple(range(60))),))) for web in webs]), 2)
        self.assertLess(seconds([(meeting, (web, 3, 50)) for web in webs]), 2)
        at_seven = [(web, tuple(tie for tie, ends in enumerate(web[1]) if 7 in ends)) for web in webs]
        self.assertLess(seconds([(crossing, worths) for worths in at_seven]), 2)

    def test_trees_of_what_is_put_together(self):
        rng = random.Random(171)
        webs = [drawn_parts(rng, 60) for _ in range(100)] + [wheel(30), ladder(20), bundle(60), fan_of_paths(10, 6)]
        self.assertLess(seconds([(tree, (web,)) for web in webs]), 3)
        webs = [random_block(rng, rng.randint(2, 13), 14) for _ in range(300)]
        self.assertLess(seconds([(tree, (web,)) for web in webs if is_block(web)]), 2)

    def test_about_a_thousand_bonds(self):
        rng = random.Random(172)
        webs = [ring(45), tied_on(ring(45), path(11)), tied_on(ring(46), path(11)), ring(44), fan_of_paths(8, 2),
                fan_of_paths(9, 2), fan_of_paths(10, 2), beside_one_another(ring(45), ring(5)),
                beside_one_another(ring(45), ring(5), LINE), tied_on(ring(40), ring(20))]
        webs = [drawn_order(rng, web) for web in webs for _ in range(10)]
        self.assertEqual(len(webs), 100)
        self.assertLess(seconds([(bonds, (web,)) for web in webs]), 3)
        with self.assertRaises(TooMany):
            bonds(webs[25])
        webs = small_webs(172, 500, 8, 8)
        self.assertLess(seconds([(bonds, (web,)) for web in webs]), 2)

    def test_about_a_thousand_rings(self):
        rng = random.Random(176)
        webs = [wheel(30), wheel(20), bundle(45), bundle(46), fan_of_paths(30, 2), ladder(20), random_web(rng, 50, 60),
                random_web(rng, 30, 60), cubic_web(rng, 40), random_block(rng, 50, 60)]
        webs = [drawn_order(rng, web) for web in webs for _ in range(10)]
        self.assertLess(seconds([(rings, (web,)) for web in webs]), 5)

    def test_small_webs(self):
        webs = small_webs(173, 200, 8, 8)
        for call in OF_ALL:
            if call is not all_layings:
                self.assertLess(seconds([(call, (web,)) for web in webs]), 2, call.__name__)
        few = [web for web in webs if how_many(web) <= 150]
        self.assertLess(seconds([(all_layings, (web,)) for web in few]), 2)
        rng = random.Random(173)
        ways = []
        for web in few:
            if how_many(web) and web[1] and len(web[1]) < 8 and len(pieces(web)) == 1:
                known = all_layings(web)
                ways.append((web, rng.choice(known), rng.choice(known)))
        self.assertGreater(len(ways), 30)
        for call in (way, moves_between):
            self.assertLess(seconds([(call, worths) for worths in ways]), 2)
        most = bundle(6)
        self.assertLess(seconds([(way, (most, laying, over(most, lay(most)))) for laying in all_layings(most)]), 6)

    def test_far_webs(self):
        rng = random.Random(174)
        webs = list(far_webs().values()) + [cubic_web(rng, 40) for _ in range(5)]
        webs += [flat_web(rng, spots, 60) for spots in (22, 30, 40, 50, 60)]
        webs += [random_web(rng, spots, 60) for spots in range(5, 60, 6)] + [drawn_parts(rng, 60) for _ in range(10)]
        for call in OF_ALL:
            self.assertLess(seconds([(call, (web,)) for web in webs]), 6, call.__name__)
        for call in (same_rings, rings_part):
            self.assertLess(seconds([(call, (web, (web[0], web[1][::-1]))) for web in webs]), 3)
        self.assertLess(seconds([(form_way_holds, (web, form_way(web))) for web in webs]), 3)

    def test_a_thousand_layings(self):
        ten = tied_on(wheel(5), LINE)
        webs = [beside_one_another(ten, ten, ten), tied_on(ladder(10), path(5)), bundle(7), ladder(11),
                tied_on(tied_on(wheel(8), wheel(8)), path(3)), tied_on(tied_on(tied_on(P, P), LINE), LINE)]
        webs = [web for web in webs if how_many(web) <= 1000]
        self.assertGreater(len(webs), 3)
        self.assertLess(seconds([(all_layings, (web,)) for web in webs for _ in range(5)]), 6)

    def test_opposites(self):
        rng = random.Random(177)
        webs = [web for web in small_webs(177, 200, 8, 8) if lay(web) is not None]
        far = list(far_webs().values()) + [drawn_parts(rng, 60) for _ in range(30)]
        far += [flat_web(rng, spots, 60) for spots in (22, 30, 40, 50, 60)]
        for group in (webs, [web for web in far if lay(web) is not None]):
            self.assertLess(seconds([(flat_basis, (web,)) for web in group]), 2)
            bases = [(web, flat_basis(web)) for web in group]
            self.assertLess(seconds([(by_basis, worths) for worths in bases]), 2)
            pairs = [(web, by_basis(web, basis)) for web, basis in bases]
            self.assertLess(seconds([(is_opposite, worths) for worths in pairs]), 2)
            self.assertLess(seconds([(by_opposite, worths) for worths in pairs]), 2)
            whole = [(web, lay(web)) for web in group if len(pieces(web)) == 1]
            self.assertLess(seconds([(opposite, worths) for worths in whole]), 2)

    def test_leads(self):
        rng = random.Random(178)
        webs = small_webs(178, 200, 8, 8)
        far = list(far_webs().values()) + [drawn_parts(rng, 60) for _ in range(30)] + [prism(20), ring(60), wheel(30)]
        far += [cubic_web(rng, 40) for _ in range(5)] + [flat_web(rng, spots, 60) for spots in (22, 30, 40, 50, 60)]
        far += [beside_one_another(ring(10), ring(20), ring(30)), beside_one_another(ring(10), ring(25), ring(25))]
        for group in (webs, far):
            pairs = [(web, drawn_order(rng, web)) for web in group] + [(web, rng.choice(group)) for web in group]
            self.assertLess(seconds([(lead, worths) for worths in pairs]), 3)
            self.assertLess(seconds([(own_leads, (web,)) for web in group]), 4)
            whole = [(web, lay(web)) for web in group if web[1] and len(pieces(web)) == 1 and lay(web) is not None]
            self.assertLess(seconds([(laying_code, worths) for worths in whole]), 3)
            both = [(*worths, *rng.choice(whole)) for worths in whole] + [(*worths, *worths) for worths in whole]
            self.assertLess(seconds([(laying_lead, worths) for worths in both]), 3)
            few = [web for web, _ in whole if how_many(web) < 200]
            self.assertGreater(len(few), 10)
            self.assertLess(seconds([(unlike_layings, (web,)) for web in few]), 3)
        most = [bundle(7), (1, ((0, 0),) * 4), tied_on(tied_on(wheel(8), wheel(8)), path(3))]
        most += [(20, path(11)[1] + tuple((at, at + 10) for at in range(1, 10)))]
        self.assertLess(seconds([(unlike_layings, (web,)) for web in most for _ in range(5)]), 3)

    def test_leads_of_webs_that_look_alike(self):
        """Rings in some number, and wheels of them, each of which must not be tried with each other one."""
        rng = random.Random(179)
        pairs = []
        for rims, others in (([3] * 18 + [6], [3] * 20), ([3] * 10 + [6] * 5, [3] * 8 + [6] * 6), ([30, 30], [29, 31])):
            pairs.append((beside_one_another(*[ring(many) for many in rims]),
                          drawn_order(rng, beside_one_another(*[ring(many) for many in others]))))
        for rims, others in (([3] * 10, [3] * 8 + [6]), ([6] * 5, [3] * 2 + [6] * 4), ([5] * 6, [5] * 4 + [4, 6])):
            rows = [beside_one_another(*[ring(many) for many in each]) for each in (rims, others)]
            cones = [(web[0] + 1, web[1] + tuple((at, web[0]) for at in range(web[0]))) for web in rows]
            pairs.append((cones[0], drawn_order(rng, cones[1])))
        for web, other in pairs:
            self.assertEqual((web[0], len(web[1])), (other[0], len(other[1])))
            self.assertIsNone(lead(web, other))
        self.assertLess(seconds([(lead, pair) for pair in pairs for _ in range(10)]), 3)
        self.assertLess(seconds([(own_leads, (web,)) for pair in pairs for web in pair]), 3)

    def test_boards_and_shells(self):
        rng = random.Random(180)
        begun = time.perf_counter()
        many = 0
        for kind in (Board, FlatBoard):
            for web in ((14, ()), wheel(13), bundle(14), prism(7), ladder(7), path(14)):
                board = kind(web)
                for _ in range(60):
                    edit = drawn_edit(rng, board.web)
                    outcome(getattr(board, edit[0]), *edit[1:])
                    for call in (board.count, board.paper, board.blocks, board.news, board.copy):
                        outcome(call)
                    edits = tuple(drawn_edit(rng, board.web, 0) for _ in range(12))
                    outcome(board.batch, edits)
                    outcome(board.undo)
                    many += 8
        self.assertLess(time.perf_counter() - begun, many * 0.005)
        shell = Shell()
        shell.say("new 14")
        lines = [f"tie {rng.randrange(14)} {rng.randrange(14)}" for _ in range(28)]
        lines += ["count", "flat", "parts", "kinds", "web", "undo", "redo", "draw 3", "cut 5", "spot", "tie 3"] * 10
        self.assertLess(seconds([(shell.say, (line,)) for line in lines]), 2)


if __name__ == "__main__":
    unittest.main()
