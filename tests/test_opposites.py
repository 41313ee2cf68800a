"""[I1] to [I4]: opposite webs, and flat bases of rings."""

import random
import unittest
from itertools import combinations

import plain
from flatbonds.blocks import is_block
from flatbonds.errors import NotBasis, NotBlock, NotFlat, NotOpposite, NotWhole, Unfit
from flatbonds.layings import all_layings, faces, how_many, is_flat, lay
from flatbonds.opposites import basis_holds, by_basis, by_opposite, flat_basis, is_opposite, opposite
from flatbonds.rings import bonds, is_ring, rings
from flatbonds.webs import pieces
from samples import (
    BARE, F, H, LINE, LOOP, ODD_VALUES, P, R, T, W, beside_one_another, bundle, drawn_order, drawn_parts, far_webs,
    flat_web, full, path, ring, small_blocks, small_webs, wheel, with_loops, with_spots
)

L = ((0, 2, 4), (1, 8, 6), (3, 7, 10), (5, 11, 9))


def some_layings(web, most=6):
    """Some flat layings of the web."""
    if how_many(web) > 1000:
        return [lay(web)]
    found = all_layings(web)
    return found[::1 + len(found) // most]


def crossed_laying(web):
    """A laying that is not flat, None if none is found soon."""
    for at, laying in enumerate(plain.all_turns(web)):
        if not is_flat(web, laying):
            return laying
        if at > 300:
            return None
    return None


class OppositeTest(unittest.TestCase):
    def test_by_words(self):
        tried = 0
        for web in small_webs(200, 120) + small_blocks(200, 40, 5, 8):
            if len(pieces(web)) > 1:
                continue
            for laying in some_layings(web, 100) if lay(web) is not None else []:
                found = opposite(web, laying)
                known = faces(web, laying)
                self.assertEqual(found[0], max(1, len(known)))
                for tie, ends in enumerate(found[1]):
                    at = [number for number, face in enumerate(known) for dart in face if dart // 2 == tie]
                    self.assertEqual(ends, tuple(sorted(at)))
                self.assertTrue(plain.is_opposite(web, found))
                self.assertIs(is_opposite(web, found), True)
                self.assertIs(is_opposite(found, web), True)
                tried += 1
        self.assertGreater(tried, 200)

    def test_edges(self):
        self.assertEqual(opposite(BARE, ((),)), (1, ()))
        self.assertEqual(opposite(LINE, ((0,), (1,))), (1, ((0, 0),)))
        self.assertEqual(opposite(LOOP, ((0, 1),)), (2, ((0, 1),)))
        self.assertEqual(opposite(ring(3), lay(ring(3))), (2, ((0, 1),) * 3))
        self.assertEqual(opposite(path(4), lay(path(4))), (1, ((0, 0),) * 3))

    def test_errors(self):
        crossed = crossed_laying(W)
        with self.assertRaises(NotFlat):
            opposite(W, crossed)
        two = beside_one_another(W, LINE)
        for laying in (lay(two), (*crossed, (12,), (13,))):
            with self.assertRaises(NotWhole):
                opposite(two, laying)
        with self.assertRaises(NotWhole):
            opposite((2, ()), ((), ()))
        with self.assertRaises(NotWhole):
            opposite(with_spots(W, 5), (*L, ()))

    def test_opposites_of_opposites(self):
        for web in small_blocks(201, 60):
            if lay(web) is not None:
                found = opposite(web, lay(web))
                self.assertTrue(is_block(found))
                again = opposite(found, lay(found))
                self.assertEqual(plain.rings(again), plain.rings(web))


class IsOppositeTest(unittest.TestCase):
    def test_all_pairs_of_some_webs(self):
        webs = small_webs(202, 120, 5, 6) + small_blocks(202, 30, 5, 6)
        known = [(web, plain.rings(web), plain.bonds(web)) for web in webs]
        found = 0
        for web, loops, _ in known:
            for other, _, cuts in known:
                if len(web[1]) == len(other[1]):
                    told = is_opposite(web, other)
                    self.assertIs(told, loops == cuts)
                    self.assertIs(is_opposite(other, web), told)
                    found += told
                else:
                    with self.assertRaises(Unfit):
                        is_opposite(web, other)
        self.assertGreater(found, 300)

    def test_edges(self):
        self.assertIs(is_opposite(BARE, (5, ())), True)
        self.assertIs(is_opposite((3, ()), (3, ())), True)
        self.assertIs(is_opposite(LOOP, LINE), True)
        self.assertIs(is_opposite(LOOP, LOOP), False)
        self.assertIs(is_opposite(LINE, with_spots(LOOP, 4)), True)
        self.assertIs(is_opposite(ring(7), bundle(7)), True)
        self.assertIs(is_opposite(W, with_spots(W, 5)), False)
        self.assertIs(is_opposite(W, (4, ((0, 1), (1, 2), (0, 2), (1, 3), (0, 3), (2, 3)))), True)

    def test_unfit(self):
        for web, other in ((W, H), (W, F), (BARE, LOOP), (LINE, BARE), (ring(6), ring(5))):
            if len(web[1]) != len(other[1]):
                with self.assertRaises(Unfit):
                    is_opposite(web, other)

    def test_one_tie_differs(self):
        """An opposite web of which two ties change places is one just if this leaves its bonds as they are."""
        rng = random.Random(203)
        for web in (W, H, R, wheel(5), ring(5), bundle(4)):
            found = opposite(web, lay(web))
            for _ in range(8):
                one, two = rng.sample(range(len(web[1])), 2)
                ties = list(found[1])
                ties[one], ties[two] = ties[two], ties[one]
                other = (found[0], tuple(ties))
                self.assertIs(is_opposite(web, other), rings(web) == bonds(other))


class BasisTest(unittest.TestCase):
    def test_exactly_of_webs_that_lie_flat(self):
        flat, crossed = 0, 0
        for web in small_webs(210, 120, 6, 9) + small_blocks(210, 60, 6, 12) + [F, T, full(6), wheel(6)]:
            found = flat_basis(web)
            if lay(web) is None:
                self.assertIsNone(found)
                crossed += 1
                continue
            flat += 1
            self.assertIs(basis_holds(web, found), True)
            self.assertTrue(all(is_ring(web, pick) for pick in found))
            if len(web[1]) < 9:
                self.assertTrue(plain.is_flat_basis(web, found))
            self.assertTrue(is_opposite(web, by_basis(web, found)))
        self.assertGreater(flat, 100)
        self.assertGreater(crossed, 3)

    def test_holds_by_words(self):
        """All tuples of some even picks of small webs, and the same with one pick more or less."""
        rng = random.Random(211)
        holding = 0
        for web in small_webs(211, 40, 4, 6) + [W, H, R, P, bundle(4)]:
            even = plain.evens(web)
            size = len(even).bit_length() - 1
            rows = [tuple(rng.sample(even, min(len(even), many))) for many in (size, size, size, size - 1, size + 1)
                    if many >= 0 for _ in range(6)]
            rows += list(combinations(even, size))[:60] if size < 4 else []
            for row in rows:
                told = basis_holds(web, row)
                self.assertIs(told, plain.is_flat_basis(web, row))
                holding += told
                if told:
                    self.assertTrue(plain.is_opposite(web, by_basis(web, row)))
                else:
                    with self.assertRaises(NotBasis):
                        by_basis(web, row)
        self.assertGreater(holding, 100)

    def test_picks_that_are_no_rings(self):
        row = ((0, 1, 2, 3), (2, 3))
        web = (3, ((0, 1), (0, 1), (1, 2), (1, 2)))
        self.assertIs(basis_holds(web, row), True)
        self.assertEqual(by_basis(web, row), (3, ((0, 2), (0, 2), (0, 1), (0, 1))))

    def test_no_flat_basis(self):
        whole = ((0, 1, 3), (0, 2, 4), (1, 2, 5))
        self.assertIs(basis_holds(W, whole), True)
        for row in ((), whole[:2], (*whole, ()), (*whole[:2], ()), (whole[0],) * 3, (*whole[:2], (1, 2, 3, 4)),
                    (*whole, (3, 4, 5)), ((0, 1, 3), (0, 2, 4), (0, 1, 4, 5)), ((0, 1, 3), (0, 2, 4), (0, 5)),
                    ((0, 1, 3), (0, 2, 4), (2, 1, 5)), ((0, 1, 3), (0, 2, 4), (1, 2, 2, 5)),
                    ((0, 1, 3), (0, 2, 4), (5,)), ((0,), (1,), (2,)), ((0, 1, 3), (2, 4), (1, 2, 5))):
            self.assertIs(basis_holds(W, row), False)
            with self.assertRaises(NotBasis):
                by_basis(W, row)
        for web in (F, T):
            even = [pick for pick in plain.rings(web) if len(pick) < 5]
            size = len(web[1]) - web[0] + 1
            for row in list(combinations(even, size))[:200]:
                self.assertIs(basis_holds(web, row), False)

    def test_ties_of_two_of_one_and_of_no_pick(self):
        self.assertEqual(by_basis(W, ((0, 1, 3), (0, 2, 4), (1, 2, 5))),
                         (4, ((0, 1), (0, 2), (1, 2), (0, 3), (1, 3), (2, 3))))
        self.assertEqual(by_basis(W, ((1, 2, 5), (0, 2, 4), (0, 1, 3))),
                         (4, ((1, 2), (0, 2), (0, 1), (2, 3), (1, 3), (0, 3))))
        self.assertEqual(by_basis(P, ((3,), (0, 1))), (3, ((1, 2), (1, 2), (2, 2), (0, 2), (2, 2))))
        self.assertEqual(by_basis(path(3), ()), (1, ((0, 0), (0, 0))))
        self.assertEqual(by_basis((4, ()), ()), (1, ()))
        self.assertEqual(by_basis(bundle(3), ((0, 1), (1, 2))), (3, ((0, 2), (0, 1), (1, 2))))

    def test_edges(self):
        self.assertEqual(flat_basis(BARE), ())
        self.assertEqual(flat_basis(path(5)), ())
        self.assertEqual(flat_basis(with_loops(LINE, 1)), ((1,),))
        self.assertEqual(flat_basis(bundle(2)), ((0, 1),))
        self.assertIs(basis_holds(BARE, ()), True)
        self.assertIs(basis_holds(BARE, ((),)), False)
        self.assertIs(basis_holds(LOOP, ()), False)
        self.assertIs(basis_holds(LOOP, ((0,),)), True)
        self.assertIsNone(flat_basis(beside_one_another(W, F)))

    def test_wrong_values(self):
        whole = ((0, 1, 3), (0, 2, 4), (1, 2, 5))
        values = ODD_VALUES + [list(whole), (list(whole[0]), *whole[1:]), (*whole[:2], [1, 2, 5]), (*whole[:2], None),
                               (*whole[:2], "125"), (*whole[:2], (True, 2, 5)), ((False, 1, 3), *whole[1:]),
                               (*whole[:2], (1, 2, 10 ** 399)), (*whole[:2], (-5, 1, 2)), (*whole[:2], {1: 2}),
                               (whole, whole, whole), (*whole[:2], ((1,), 2, 5)), "013", tuple(range(3000))]
        for value in values:
            for web in (W, P, F):
                self.assertIs(basis_holds(web, value), False)


class ByOppositeTest(unittest.TestCase):
    def check(self, web, other):
        found = by_opposite(web, other)
        self.assertTrue(is_flat(web, found))
        told = sorted(tuple(sorted({dart // 2 for dart in face})) for face in faces(web, found))
        stars = sorted(tuple(tie for tie, ends in enumerate(other[1]) if spot in ends) for spot in range(other[0]))
        self.assertEqual(told, stars)

    def test_opposites_of_all_layings(self):
        tried = 0
        for web in small_blocks(220, 80, 6, 10):
            for laying in some_layings(web) if lay(web) is not None else []:
                self.check(web, opposite(web, laying))
                tried += 1
        self.assertGreater(tried, 150)

    def test_any_names_and_opposites(self):
        """Opposite webs that are made by a basis, or by drawing the spots of one in another order."""
        rng = random.Random(221)
        for web in small_blocks(221, 40, 6, 10):
            if lay(web) is None:
                continue
            other = by_basis(web, flat_basis(web))
            self.check(web, other)
            names = rng.sample(range(other[0]), other[0])
            self.check(web, (other[0], tuple(tuple(sorted((names[a], names[b]))) for a, b in other[1])))

    def test_edges(self):
        self.assertEqual(by_opposite(LINE, LOOP), ((0,), (1,)))
        self.assertEqual(by_opposite(LOOP, LINE), ((0, 1),))
        for web, other in ((ring(6), bundle(6)), (bundle(6), ring(6)), (bundle(2), bundle(2)), (ring(3), bundle(3))):
            self.check(web, other)
        self.check((2, ((0, 1), (0, 1), (0, 1))), (3, ((0, 1), (1, 2), (0, 2))))

    def test_order_of_errors(self):
        with self.assertRaises(Unfit):
            by_opposite(P, LINE)
        with self.assertRaises(Unfit):
            by_opposite(BARE, LOOP)
        with self.assertRaises(NotBlock):
            by_opposite(P, ring(5))
        with self.assertRaises(NotBlock):
            by_opposite(ring(5), P)
        with self.assertRaises(NotBlock):
            by_opposite(BARE, BARE)
        with self.assertRaises(NotBlock):
            by_opposite(P, by_basis(P, flat_basis(P)))
        with self.assertRaises(NotBlock):
            by_opposite(with_spots(W, 5), opposite(W, L))
        with self.assertRaises(NotOpposite):
            by_opposite(W, W)
        with self.assertRaises(NotOpposite):
            by_opposite(F, F)
        with self.assertRaises(NotOpposite):
            by_opposite(LOOP, LOOP)
        with self.assertRaises(NotOpposite):
            by_opposite(ring(4), ring(4))


class FarTest(unittest.TestCase):
    def test_far_webs(self):
        rng = random.Random(230)
        webs = list(far_webs().values()) + [drawn_parts(rng, 60) for _ in range(15)]
        webs += [flat_web(rng, spots, 60) for spots in (22, 30, 40, 60)] + [drawn_order(rng, wheel(30))]
        tried = 0
        for web in webs:
            found = flat_basis(web)
            self.assertEqual(found is None, lay(web) is None)
            if found is None:
                continue
            self.assertTrue(basis_holds(web, found))
            self.assertTrue(all(is_ring(web, pick) for pick in found))
            other = by_basis(web, found)
            self.assertTrue(is_opposite(web, other))
            self.assertTrue(is_opposite(other, web))
            if len(pieces(web)) == 1:
                told = opposite(web, lay(web))
                self.assertTrue(is_opposite(web, told))
                if is_block(web):
                    ByOppositeTest.check(self, web, told)
                    ByOppositeTest.check(self, told, web)
                    tried += 1
                    # With one of its ties to a further spot it has a bond of this tie alone.
                    further = (told[0] + 1, ((told[1][0][0], told[0]), *told[1][1:]))
                    self.assertFalse(is_opposite(web, further))
        self.assertGreater(tried, 15)


if __name__ == "__main__":
    unittest.main()
