"""[B1] to [B3] and [A2] (c): even picks, cuts, rings, bonds and sums."""

import itertools
import random
import unittest

from flatbonds.errors import InForest, Neither, NotInForest, TooMany
from flatbonds.rings import (
    bond_with, bonds, first_forest, is_bond, is_cut, is_even, is_ring, parted, ring_with, rings, sum_of, summands
)
import plain
from samples import (
    BARE, F, H, LINE, LOOP, P, W, beside_one_another, bundle, drawn_order, fan_of_paths, full, path, prism, put_together,
    random_block, random_picks, random_web, ring, small_webs, tied_on, wheel, with_loops, with_spots
)


def first_ring(web):
    """The ties of the one ring of the web."""
    (found,) = rings(web)
    return found


class KindsOfPicksTest(unittest.TestCase):
    def test_all_picks_of_small_webs(self):
        for web in small_webs(10, 60):
            evens, cuts = set(plain.evens(web)), plain.all_cuts(web)
            known_rings, known_bonds = set(plain.rings(web)), set(plain.bonds(web))
            for pick in plain.all_picks(web):
                self.assertIs(is_even(web, pick), pick in evens)
                self.assertIs(is_cut(web, pick), pick in cuts)
                self.assertIs(is_ring(web, pick), pick in known_rings)
                self.assertIs(is_bond(web, pick), pick in known_bonds)

    def test_the_pick_of_no_tie(self):
        for web in (BARE, LOOP, P, W):
            found = [is_even(web, ()), is_cut(web, ()), is_ring(web, ()), is_bond(web, ())]
            self.assertEqual(found, [True, True, False, False])

    def test_loops_and_ties_beside_one_another(self):
        self.assertEqual([is_ring(P, (3,)), is_ring(P, (0, 1)), is_ring(P, (0, 1, 3))], [True, True, False])
        self.assertEqual([is_cut(LOOP, (0,)), is_bond(P, (4,)), is_bond(P, (0,))], [False, True, False])
        self.assertEqual([is_cut(bundle(3), (0, 1)), is_cut(bundle(3), (0, 1, 2))], [False, True])

    def test_two_rings_at_one_spot_are_none(self):
        web = tied_on(ring(3), ring(3))
        self.assertTrue(is_even(web, tuple(range(6))))
        self.assertFalse(is_ring(web, tuple(range(6))))

    def test_counts_of_even_picks_and_cuts(self):
        for web in small_webs(11, 40):
            count = len(plain.pieces(web))
            picks = plain.all_picks(web)
            self.assertEqual(sum(is_even(web, pick) for pick in picks), 2 ** (len(web[1]) - web[0] + count))
            self.assertEqual(sum(is_cut(web, pick) for pick in picks), 2 ** (web[0] - count))

    def test_an_even_pick_and_a_cut_have_an_even_number_in_common(self):
        for web in small_webs(12, 30):
            evens = [pick for pick in plain.all_picks(web) if is_even(web, pick)]
            cuts = [pick for pick in plain.all_picks(web) if is_cut(web, pick)]
            for even in evens:
                for cut in cuts:
                    self.assertEqual(len(set(even) & set(cut)) % 2, 0)


class ListsTest(unittest.TestCase):
    def too_many(self, call, web):
        with self.assertRaises(TooMany) as caught:
            call(web)
        self.assertEqual(caught.exception.limit, 1000)

    def test_small_webs(self):
        for web in small_webs(13, 250):
            self.assertEqual(rings(web), plain.rings(web))
            self.assertEqual(bonds(web), plain.bonds(web))

    def test_none(self):
        for web in (BARE, (60, ()), LINE, path(60)):
            self.assertEqual(rings(web), ())
        for web in (BARE, (60, ()), LOOP, with_loops(BARE, 60)):
            self.assertEqual(bonds(web), ())

    def test_just_as_many_rings_as_listed(self):
        self.assertEqual(len(rings(with_loops(bundle(45), 10))), 1000)
        self.too_many(rings, with_loops(bundle(45), 11))
        self.assertEqual(len(rings(beside_one_another(bundle(40), full(5), bundle(10)))), 780 + 37 + 45)
        more = beside_one_another(bundle(45), bundle(5))
        self.assertEqual(len(rings(more)), 1000)
        self.too_many(rings, with_loops(more, 1))
        self.too_many(rings, with_loops(tied_on(bundle(45), bundle(5)), 1, 2))
        self.assertEqual(len(rings(tied_on(bundle(45), bundle(5)))), 1000)

    def test_just_as_many_bonds_as_listed(self):
        self.assertEqual(len(bonds(tied_on(ring(45), path(11)))), 1000)
        self.too_many(bonds, tied_on(ring(45), path(12)))
        self.assertEqual(len(bonds(tied_on(ring(45), ring(5)))), 1000)
        self.assertEqual(len(bonds(beside_one_another(ring(45), ring(5)))), 1000)
        self.too_many(bonds, beside_one_another(ring(45), ring(5), LINE))
        self.too_many(bonds, tied_on(tied_on(ring(45), ring(5)), LINE, 3))

    def test_bonds_of_rings_with_ties_behind_them(self):
        rng = random.Random(17)
        for ties in range(40, 47):
            for behind in range(15):
                if ties + behind > 60:
                    continue
                for web in (tied_on(ring(ties), path(behind + 1), ties - 1),
                            beside_one_another(path(behind + 1), ring(ties)),
                            drawn_order(rng, tied_on(ring(ties), path(behind + 1)))):
                    around = first_ring(web)
                    known = list(itertools.combinations(around, 2))
                    known += [(tie,) for tie in range(len(web[1])) if tie not in around]
                    if len(known) > 1000:
                        self.too_many(bonds, web)
                    else:
                        self.assertEqual(bonds(web), tuple(sorted(known)))

    def test_bonds_of_roads_of_two_ties(self):
        rng = random.Random(18)
        for roads in (1, 2, 3, 8, 9):
            pairs = [(2 * road, 2 * road + 1) for road in range(roads)]
            known = [tuple(choice) for choice in itertools.product(*pairs)] + pairs
            self.assertEqual(bonds(fan_of_paths(roads, 2)), tuple(sorted(set(known) if roads > 1 else [(0,), (1,)])))
        for web in (fan_of_paths(10, 2), drawn_order(rng, fan_of_paths(10, 2)), tied_on(fan_of_paths(10, 2), LINE)):
            self.too_many(bonds, web)

    def test_bonds_by_sides(self):
        rng = random.Random(19)
        webs = [random_block(rng, rng.randint(2, 9), rng.randint(9, 24)) for _ in range(80)]
        webs += [random_web(rng, rng.randint(2, 9), rng.randint(3, 28)) for _ in range(80)]
        webs += [drawn_order(rng, web) for web in (wheel(9), full(8), prism(5), tied_on(full(6), wheel(4)))]
        webs += [put_together(rng, *rng.choices([W, F, ring(3), bundle(3), wheel(4)], k=3)) for _ in range(40)]
        listed = 0
        for web in webs:
            known = plain.bonds_by_sides(web) if web[0] < 12 else None
            if known is None:
                continue
            if len(known) > 1000:
                self.too_many(bonds, web)
            else:
                listed += 1
                self.assertEqual(bonds(web), known)
        self.assertGreater(listed, 150)

    def test_rings_by_roads(self):
        rng = random.Random(20)
        webs = [random_block(rng, spots, ties) for spots in range(5, 45, 4) for ties in range(spots, spots + 7, 2)]
        webs += [random_web(rng, rng.randint(2, 9), rng.randint(3, 15)) for _ in range(80)]
        webs += [drawn_order(rng, web) for web in (wheel(9), full(6), prism(4), tied_on(full(5), wheel(4)), bundle(30))]
        webs += [put_together(rng, *rng.choices([W, F, ring(3), bundle(3), wheel(4)], k=3)) for _ in range(40)]
        webs += [drawn_order(rng, web) for web in (fan_of_paths(45, 1), fan_of_paths(9, 4), bundle(45), bundle(46))]
        listed = 0
        for web in webs:
            known = plain.rings_by_roads(web)
            if len(known) > 1000:
                self.too_many(rings, web)
            else:
                listed += 1
                self.assertEqual(rings(web), known)
        self.assertGreater(listed, 150)

    def test_rings_of_wheels(self):
        for spokes in (3, 4, 10, 30):
            found = rings(wheel(spokes))
            self.assertEqual(len(found), spokes * (spokes - 1) + 1)
            self.assertEqual(list(found), sorted(set(found)))
            self.assertTrue(all(is_ring(wheel(spokes), each) for each in found[::9]))

    def test_bonds_of_wheels(self):
        for spokes in (3, 4, 10, 30):
            found = bonds(wheel(spokes))
            # One for each row of spots round the wheel, and that of all of them.
            self.assertEqual(len(found), spokes * (spokes - 1) + 1)
            self.assertEqual(list(found), sorted(set(found)))
            self.assertTrue(all(is_bond(wheel(spokes), bond) for bond in found[::9]))

    def test_very_many(self):
        twice = beside_one_another(full(8), full(8))
        for web in (bundle(60), full(11), with_spots(full(11), 60), twice, prism(20)):
            self.too_many(rings, web)
        for web in (ring(60), full(11), fan_of_paths(20, 3), beside_one_another(ring(30), ring(30), full(9)), prism(20)):
            self.too_many(bonds, web)

    def test_few_bonds_of_many_ties_and_few_rings_of_many_spots(self):
        self.assertEqual(bonds(bundle(60)), (tuple(range(60)),))
        self.assertEqual(rings(ring(60)), (tuple(range(60)),))
        self.assertEqual(len(rings(fan_of_paths(3, 20))), 3)


class FirstForestTest(unittest.TestCase):
    def test_by_rings(self):
        for web in small_webs(14, 150):
            greatest = {known[-1] for known in plain.rings(web)}
            self.assertEqual(first_forest(web), tuple(tie for tie in range(len(web[1])) if tie not in greatest))

    def test_ring_with_and_bond_with(self):
        for web in small_webs(15, 150):
            forest = set(first_forest(web))
            for tie in range(len(web[1])):
                if tie in forest:
                    known = [bond for bond in plain.bonds(web) if set(bond) & forest == {tie}]
                    self.assertEqual([bond_with(web, tie)], known)
                else:
                    known = [each for each in plain.rings(web) if set(each) - forest == {tie}]
                    self.assertEqual([ring_with(web, tie)], known)

    def test_errors(self):
        for web in small_webs(16, 40):
            for tie in range(len(web[1])):
                call, error = (ring_with, InForest) if tie in first_forest(web) else (bond_with, NotInForest)
                with self.assertRaises(error) as caught:
                    call(web, tie)
                self.assertEqual(caught.exception.tie, tie)

    def test_loops(self):
        self.assertEqual(first_forest(LOOP), ())
        self.assertEqual(ring_with(LOOP, 0), (0,))
        self.assertEqual(first_forest(P), (0, 2, 4))
        self.assertEqual(bond_with(P, 0), (0, 1))


class SumsTest(unittest.TestCase):
    def test_sum_of(self):
        self.assertEqual(sum_of(()), ())
        self.assertEqual(sum_of(((),)), ())
        self.assertEqual(sum_of(((0, 99), (99,))), (0,))
        self.assertEqual(sum_of(((5, 7), (5, 7))), ())
        rng = random.Random(17)
        for _ in range(100):
            picks = tuple(random_row(rng) for _ in range(rng.randint(0, 9)))
            known = tuple(tie for tie in range(100) if sum(tie in pick for pick in picks) % 2)
            self.assertEqual(sum_of(picks), known)

    def test_summands_of_some(self):
        rng = random.Random(18)
        for _ in range(150):
            picks = tuple(random_row(rng) for _ in range(rng.randint(0, 30)))
            chosen = [place for place in range(len(picks)) if rng.random() < 0.5]
            pick = sum_of(tuple(picks[place] for place in chosen))
            self.check_summands(picks, pick, summands(picks, pick))

    def check_summands(self, picks, pick, found):
        self.assertIsInstance(found, tuple)
        self.assertEqual(list(found), sorted(set(found)))
        self.assertTrue(all(type(place) is int and 0 <= place < len(picks) for place in found))
        self.assertEqual(sum_of(tuple(picks[place] for place in found)), pick)

    def test_summands_of_few(self):
        rng = random.Random(19)
        for _ in range(300):
            picks = tuple(tuple(tie for tie in range(5) if rng.random() < 0.4) for _ in range(rng.randint(0, 5)))
            pick = tuple(tie for tie in range(5) if rng.random() < 0.5)
            sums = {sum_of(tuple(picks[place] for place in some)) for some in plain.all_picks((1, picks))}
            found = summands(picks, pick)
            if pick in sums:
                self.check_summands(picks, pick, found)
            else:
                self.assertIsNone(found)

    def test_summands_at_the_edges(self):
        self.assertEqual(summands((), ()), ())
        self.assertIsNone(summands((), (99,)))
        self.assertEqual(summands(((), (99,), ()), (99,)), (1,))
        self.assertIsNone(summands(((0, 99), (99,)), (1,)))
        self.assertEqual(summands(((0, 99), (99,)), (0,)), (0, 1))
        self.assertEqual(sum_of(tuple(((1, 2), (1, 2), (3,))[at] for at in summands(((1, 2), (1, 2), (3,)), (1, 2, 3)))),
                         (1, 2, 3))

    def test_even_picks_are_sums_of_the_rings_with_ties(self):
        for web in small_webs(20, 30):
            basis = tuple(ring_with(web, tie) for tie in range(len(web[1])) if tie not in first_forest(web))
            for pick in plain.all_picks(web):
                self.assertEqual(summands(basis, pick) is not None, plain.is_even(web, pick))


def random_row(rng):
    share = rng.random()
    return tuple(tie for tie in range(100) if rng.random() < share)


class PartedTest(unittest.TestCase):
    def check_parted(self, web, pick, is_one):
        found = parted(web, pick)
        self.assertIsInstance(found, tuple)
        self.assertTrue(all(isinstance(each, tuple) and is_one(web, each) for each in found))
        self.assertEqual(sorted(tie for each in found for tie in each), list(pick))

    def test_all_picks_of_small_webs(self):
        for web in small_webs(21, 60):
            cuts = plain.all_cuts(web)
            for pick in plain.all_picks(web):
                if plain.is_even(web, pick):
                    self.check_parted(web, pick, is_ring)
                elif pick in cuts:
                    self.check_parted(web, pick, is_bond)
                else:
                    with self.assertRaises(Neither):
                        parted(web, pick)

    def test_rings_ahead_of_bonds(self):
        # All ties of a ring of four are even, and a cut too.
        self.assertEqual(parted(ring(4), (0, 1, 2, 3)), ((0, 1, 2, 3),))
        self.assertEqual(parted(bundle(2), (0, 1)), ((0, 1),))

    def test_no_tie(self):
        for web in (BARE, LOOP, W, P, F, H):
            self.assertEqual(parted(web, ()), ())

    def test_neither(self):
        with self.assertRaises(Neither):
            parted(W, (0,))
        with self.assertRaises(Neither):
            parted(P, (2, 3))

    def test_all_ties_of_far_webs(self):
        two = tied_on(full(7), full(7), 3)
        self.check_parted(two, tuple(range(42)), is_ring)
        halves = (9, tuple((a, b) for a in range(4) for b in range(4, 9)) * 3)
        self.check_parted(halves, tuple(range(60)), is_bond)
        self.check_parted(path(60), tuple(range(59)), is_bond)

    def test_picks_of_webs_of_several_pieces(self):
        rng = random.Random(22)
        web = beside_one_another(full(4), ring(4), path(3), LOOP, bundle(3))
        for pick in random_picks(rng, web, 300):
            if plain.is_even(web, pick):
                self.check_parted(web, pick, is_ring)
        cuts = plain.all_cuts(web)
        for pick in rng.sample(sorted(cuts), 100):
            if not plain.is_even(web, pick):
                self.check_parted(web, pick, is_bond)


if __name__ == "__main__":
    unittest.main()
