"""[E1] to [E5], and [A2] (a) and (i): layings, their faces, how many are flat, and what can be put to them."""

import random
import unittest

from flatbonds.errors import NotFlat, TooMany
from flatbonds.layings import (
    all_layings, at_face, faces, filled, how_many, is_flat, lay, laying_error, open_pairs, over, put_in, sides, thinned
)
from flatbonds.papers import forbidden
from flatbonds.webs import pieces, taken_out
import plain
from samples import (
    BARE, F, H, LINE, LOOP, ODD_VALUES, P, PETERSEN, R, T, W, beside_one_another, bundle, chain_of, cubic_web,
    drawn_parts, fan_of_paths, far_webs, flat_web, full, ladder, put_together, random_picks, random_web, ring,
    small_blocks, small_webs, tied_on, wheel, with_loops, with_spots
)

L = ((0, 2, 4), (1, 8, 6), (3, 7, 10), (5, 11, 9))
ODD_LAYING = ((0, 2, 4), (1, 6, 8), (3, 7, 10), (5, 11, 9))


def some_layings(rng, web, many):
    """Some layings of the web, flat or not."""
    found = []
    for _ in range(many):
        turns = []
        for spot in range(web[0]):
            darts = plain.darts_at(web, spot)
            turns.append(tuple(darts[:1] + rng.sample(darts[1:], len(darts[1:]))))
        found.append(tuple(turns))
    return found


def webs_with_few_turns(seed, many, most_spots, most_ties):
    return [web for web in small_webs(seed, many, most_spots, most_ties) if plain.count_of_turns(web) <= 3000]


class LayingErrorTest(unittest.TestCase):
    def test_layings(self):
        rng = random.Random(100)
        for web in small_webs(100, 60) + list(far_webs().values()):
            for laying in some_layings(rng, web, 3):
                self.assertIsNone(laying_error(web, laying))

    def test_no_layings(self):
        for value in [list(L), L[:3], L + ((),), (), None, "abcd", {0: (0, 2, 4)}, 4, (L,)]:
            self.assertEqual(laying_error(W, value), (None, "laying"))

    def test_the_first_spot_without_a_turn(self):
        bad_turns = [(8, 6, 1), (1, 8), (1, 8, 6, 6), (1, 8, 6, 10), (1, 6, 6), [1, 8, 6], (), None, "186", (1, 8, "6"),
                     (1, 8, None), (1, 8, 10 ** 399), (1, 8, -6), (1, 8, (6,)), {1: 8}, 1, (True, 8, 6), (1, 8, 6.0)]
        for turn in bad_turns:
            self.assertEqual(laying_error(W, (L[0], turn, L[2], L[3])), (1, "turn"), turn)
            self.assertEqual(laying_error(W, (L[0], turn, turn, None)), (1, "turn"), turn)
            self.assertEqual(laying_error(W, (L[0], L[1], L[2], turn)), (3, "turn"), turn)
        self.assertEqual(laying_error(W, ((False, 2, 4),) + L[1:]), (0, "turn"))
        self.assertEqual(laying_error(LOOP, ((0, True),)), (0, "turn"))
        self.assertEqual(laying_error(LOOP, ((1, 0),)), (0, "turn"))

    def test_spots_without_darts(self):
        self.assertIsNone(laying_error(BARE, ((),)))
        self.assertEqual(laying_error(BARE, ((0,),)), (0, "turn"))
        self.assertEqual(laying_error(BARE, ([],)), (0, "turn"))
        self.assertEqual(laying_error((3, ((0, 2),)), ((0,), None, (1,))), (1, "turn"))
        self.assertIsNone(laying_error((3, ((0, 2),)), ((0,), (), (1,))))

    def test_odd_values(self):
        for web in (W, P, LOOP, LINE, BARE, (2, ())):
            for value in ODD_VALUES:
                if (web, value) in ((BARE, ((),)), ((2, ()), ((), ()))):
                    continue
                self.assertIn(laying_error(web, value), [(None, "laying"), (0, "turn"), (1, "turn")])
                self.assertIn(laying_error(web, tuple([value] * web[0])), [None, (0, "turn"), (1, "turn")])


class FacesTest(unittest.TestCase):
    def test_by_the_words_of_the_document(self):
        rng = random.Random(101)
        for web in small_webs(101, 150, 6, 9) + list(far_webs().values()):
            for laying in some_layings(rng, web, 3):
                known = plain.faces(web, laying)
                self.assertEqual(faces(web, laying), known)
                self.assertIs(is_flat(web, laying), plain.is_flat(web, laying))

    def test_over(self):
        rng = random.Random(102)
        for web in small_webs(102, 100, 6, 9):
            for laying in some_layings(rng, web, 3):
                other = over(web, laying)
                self.assertEqual(other, tuple(plain.least_first(turn[::-1]) if turn else () for turn in laying))
                self.assertEqual(over(web, other), laying)
                self.assertIs(is_flat(web, other), is_flat(web, laying))

    def test_not_flat_ones_are_told_of_too(self):
        self.assertIs(is_flat(W, ODD_LAYING), False)
        self.assertEqual(len(faces(W, ODD_LAYING)), 2)
        self.assertEqual(over(W, ODD_LAYING)[1], (1, 8, 6))
        self.assertEqual(faces((1, ((0, 0), (0, 0))), ((0, 2, 1, 3),)), ((0, 3, 1, 2),))

    def test_edges(self):
        self.assertEqual([faces(BARE, ((),)), is_flat(BARE, ((),)), over(BARE, ((),))], [(), True, ((),)])
        self.assertEqual([faces(LOOP, ((0, 1),)), faces(LINE, ((0,), (1,)))], [((0,), (1,)), ((0, 1),)])
        self.assertEqual(is_flat((3, ((0, 0),)), ((0, 1), (), ())), True)
        apart = beside_one_another(W, W)
        other = tuple(tuple(dart + 12 for dart in turn) for turn in L)
        self.assertIs(is_flat(apart, L + other), True)
        self.assertIs(is_flat(apart, L + tuple(tuple(dart + 12 for dart in turn) for turn in ODD_LAYING)), False)


class HowManyTest(unittest.TestCase):
    def test_against_all_turns(self):
        webs = webs_with_few_turns(103, 500, 6, 7) + [
            web for web in small_blocks(103, 100, 5, 7) if plain.count_of_turns(web) <= 3000]
        self.assertGreater(len(webs), 200)
        for web in webs + [F, (5, F[1][1:])]:
            known = plain.all_layings(web)
            self.assertEqual(how_many(web), len(known))
            self.assertEqual(all_layings(web), known)
            found = lay(web)
            if known:
                self.assertIn(found, known)
                self.assertEqual(len(known), plain.how_many(web))
            else:
                self.assertIsNone(found)

    def test_against_the_product_of_the_document(self):
        for web in small_webs(104, 150, 7, 9) + small_blocks(104, 80, 7, 10):
            if lay(web) is not None:
                self.assertEqual(how_many(web), plain.how_many(web))
            else:
                self.assertEqual([how_many(web), all_layings(web)], [0, ()])

    def test_known_ones(self):
        self.assertEqual([how_many(bundle(1)), how_many(bundle(2)), how_many(bundle(3)), how_many(bundle(8))],
                         [1, 1, 2, 5040])
        self.assertEqual([how_many(BARE), how_many(LOOP), how_many((60, ())), how_many(ring(60))], [1, 1, 1, 1])
        self.assertEqual([how_many(with_loops(BARE, 2)), how_many(with_loops(BARE, 3))], [4, 40])
        self.assertEqual([how_many(T), how_many(PETERSEN), how_many(full(11)), how_many(tied_on(W, F))], [0, 0, 0, 0])
        self.assertEqual([how_many(wheel(30)), how_many(ladder(20))], [2, 2 ** 18])
        self.assertEqual(how_many(beside_one_another(W, W, P)), 48)
        most = how_many(with_loops(BARE, 60))
        self.assertLess(most, 10 ** 150)
        self.assertGreater(most, 10 ** 130)


class AllLayingsTest(unittest.TestCase):
    def check_list(self, web, count):
        found = all_layings(web)
        self.assertEqual([len(found), how_many(web)], [count, count])
        self.assertEqual(list(found), sorted(set(found)))
        for laying in found[::max(1, count // 40)]:
            self.assertIsNone(laying_error(web, laying))
            self.assertTrue(is_flat(web, laying))
        self.assertIn(lay(web), found)

    def test_many_layings(self):
        # A wheel has 2 flat layings, and there are 5 places in the middle of it for one more tie.
        ten = tied_on(wheel(5), LINE)
        self.assertEqual(how_many(ten), 10)
        self.check_list(beside_one_another(ten, ten, ten), 1000)
        for web in (beside_one_another(ten, ten, ten, R), tied_on(beside_one_another(ten, ten, ten), R, 9)):
            self.assertGreater(how_many(web), 1000)
            with self.assertRaises(TooMany) as caught:
                all_layings(web)
            self.assertEqual(caught.exception.limit, 1000)
        self.check_list(bundle(7), 720)
        self.check_list((8, tuple((0, at) for at in range(1, 8))), 720)
        self.check_list(ladder(11), 512)
        self.check_list(beside_one_another(*[W] * 9), 512)
        self.check_list(chain_of(2, 3), 2 * 2 * 9)

    def test_just_above(self):
        for web in (ladder(12), bundle(8), bundle(60), with_loops(BARE, 60), chain_of(30, 2)):
            self.assertGreater(how_many(web), 1000)
            with self.assertRaises(TooMany) as caught:
                all_layings(web)
            self.assertEqual(caught.exception.limit, 1000)

    def test_far_webs(self):
        rng = random.Random(105)
        listed = 0
        for _ in range(60):
            web = drawn_parts(rng, 60)
            if how_many(web) <= 1000:
                listed += 1
                self.check_list(web, how_many(web))
        self.assertGreater(listed, 5)


class LayTest(unittest.TestCase):
    def test_laying_or_paper(self):
        rng = random.Random(106)
        webs = small_webs(106, 200, 8, 14) + list(far_webs().values())
        webs += [cubic_web(rng, spots) for spots in (10, 20, 40)] + [flat_web(rng, 40, 60) for _ in range(20)]
        for web in webs:
            found = lay(web)
            self.assertEqual(found is None, forbidden(web) is not None)
            if found is not None:
                self.assertIsNone(laying_error(web, found))
                self.assertTrue(plain.is_flat(web, found))

    def test_flat_ones(self):
        rng = random.Random(107)
        for _ in range(300):
            web = flat_web(rng, rng.randint(3, 60), rng.randint(0, 60))
            found = lay(web)
            self.assertIsNone(laying_error(web, found))
            self.assertTrue(plain.is_flat(web, found))
        for _ in range(100):
            web = drawn_parts(rng, 60)
            self.assertTrue(plain.is_flat(web, lay(web)))

    def test_by_minors(self):
        rng = random.Random(108)
        counts = [0, 0]
        for _ in range(300):
            spots, ties = flat_web(rng, rng.randint(5, 7), 15)
            web = (spots, ties[1:] + random_web(rng, spots, rng.randint(0, 4), False)[1])
            known = plain.has_minor(web, [plain.FIVE, plain.SIX])
            self.assertEqual(lay(web) is None, known)
            counts[known] += 1
        self.assertGreater(min(counts), 20)


class OpenPairsTest(unittest.TestCase):
    def test_against_lay_of_the_web_with_the_tie(self):
        rng = random.Random(109)
        webs = small_webs(109, 200, 8, 12) + small_blocks(109, 120, 9, 14)
        webs += [put_together(rng, *rng.choices([W, ring(4), wheel(4), bundle(3), wheel(5)], k=rng.randint(2, 4)))
                 for _ in range(80)]
        for web in webs:
            pairs = [(a, b) for a in range(web[0]) for b in range(a + 1, web[0])]
            known = tuple(pair for pair in pairs if lay((web[0], web[1] + (pair,))) is not None)
            self.assertEqual(open_pairs(web), known)

    def test_far_webs(self):
        rng = random.Random(110)
        for web in [flat_web(rng, spots, 60) for spots in (23, 30, 40, 50)] + [ladder(20), wheel(30)]:
            pairs = open_pairs(web)
            for _ in range(60):
                pair = tuple(sorted(rng.sample(range(web[0]), 2)))
                self.assertEqual(pair in pairs, lay((web[0], web[1] + (pair,))) is not None)

    def test_edges(self):
        self.assertEqual([open_pairs(BARE), open_pairs(LOOP), open_pairs(LINE), open_pairs((2, ()))],
                         [(), (), ((0, 1),), ((0, 1),)])
        self.assertEqual(open_pairs(F), ())
        self.assertEqual(open_pairs(beside_one_another(F, LINE)), ())
        self.assertEqual(len(open_pairs((60, ()))), 1770)
        self.assertEqual(len(open_pairs(ring(60))), 1770)


class FilledTest(unittest.TestCase):
    def check_filled(self, web):
        spots, ties = web
        found = filled(web)
        self.assertEqual([found[0], found[1][:len(ties)]], [spots, ties])
        added = found[1][len(ties):]
        self.assertEqual(len(set(added) | set(ties)), len(added) + len(set(ties)))
        self.assertTrue(all(0 <= a < b < spots for a, b in added))
        self.assertTrue(plain.is_flat(found, lay(found)))
        simple = {(a, b) for a, b in found[1] if a != b}
        if spots > 2:
            self.assertEqual(len(simple), 3 * spots - 6)
        if len(simple) == len(ties) == 0:
            self.assertLess(spots, 2)
        return found

    def test_all_kinds_of_webs(self):
        for web in small_webs(111, 250, 8, 14) + list(far_webs().values()):
            if lay(web) is None:
                with self.assertRaises(NotFlat):
                    filled(web)
            else:
                found = self.check_filled(web)
                if web[0] < 9:
                    self.assertEqual([pair for pair in open_pairs(found) if pair not in found[1]], [])

    def test_as_many_ties_as_told(self):
        rng = random.Random(112)
        for spots in list(range(3, 20)) + [40, 60]:
            web = flat_web(rng, spots, rng.randint(0, 60))
            self.assertEqual(len(self.check_filled(web)[1]), 3 * spots - 6)
        self.assertEqual([filled(BARE), filled(LOOP), filled((2, ())), filled(LINE), filled((2, ((0, 0), (0, 1))))],
                         [BARE, LOOP, (2, ((0, 1),)), LINE, (2, ((0, 0), (0, 1)))])
        self.assertEqual(filled(W), W)
        self.assertEqual(len(filled((60, ()))[1]), 174)


class ThinnedTest(unittest.TestCase):
    def test_darts_go_and_the_laying_stays_flat(self):
        rng = random.Random(113)
        for web in small_webs(113, 150, 7, 12) + [web for web in far_webs().values()]:
            laying = lay(web)
            if laying is None:
                continue
            for pick in random_picks(rng, web, 4):
                found = thinned(web, laying, pick)
                less = taken_out(web, pick)
                self.assertIsNone(laying_error(less, found))
                self.assertTrue(is_flat(less, found))
                left = [tie for tie in range(len(web[1])) if tie not in pick]
                for turn, old in zip(found, laying):
                    told = [2 * left[dart // 2] + dart % 2 for dart in turn]
                    kept = [dart for dart in old if dart // 2 in left]
                    self.assertEqual(told, list(plain.least_first(kept)) if kept else [])

    def test_known_ones(self):
        self.assertEqual(thinned(W, L, ()), L)
        self.assertEqual(thinned(W, L, (0, 1, 2, 3, 4, 5)), ((), (), (), ()))
        self.assertEqual(thinned(W, L, (0,)), ((0, 2), (4, 6), (1, 5, 8), (3, 9, 7)))


class PutInTest(unittest.TestCase):
    def test_there_and_back(self):
        rng = random.Random(114)
        refused = 0
        for web in small_webs(114, 120, 6, 9) + small_blocks(114, 80, 7, 11):
            laying = lay(web)
            if laying is None:
                continue
            for a in range(web[0]):
                for b in range(a, web[0]):
                    more = (web[0], web[1] + ((a, b),))
                    found = put_in(web, laying, (a, b))
                    if found is None:
                        refused += 1
                        self.assertIsNone(at_face(web, laying, (a, b)))
                        self.assertNotEqual(a, b)
                        self.assertTrue(any(a in piece and b in piece for piece in pieces(web)))
                    else:
                        self.assertIsNone(laying_error(more, found))
                        self.assertTrue(plain.is_flat(more, found))
                        self.assertEqual(thinned(more, found, (len(web[1]),)), laying)
        self.assertGreater(refused, 20)
        for web in far_webs().values():
            if lay(web) is not None:
                for _ in range(10):
                    a, b = sorted(rng.choices(range(web[0]), k=2))
                    found = put_in(web, lay(web), (a, b))
                    if found is not None:
                        self.assertEqual(thinned((web[0], web[1] + ((a, b),)), found, (len(web[1]),)), lay(web))

    def test_none_by_all_places(self):
        for web in (W, R, H, (5, F[1][1:]), fan_of_paths(3, 2)):
            for laying in all_layings(web):
                for a in range(web[0]):
                    for b in range(a + 1, web[0]):
                        more = (web[0], web[1] + ((a, b),))
                        dart = 2 * len(web[1])
                        fits = False
                        for at in range(1, len(laying[a]) + 1):
                            for further in range(1, len(laying[b]) + 1):
                                turns = list(laying)
                                turns[a] = laying[a][:at] + (dart,) + laying[a][at:]
                                turns[b] = laying[b][:further] + (dart + 1,) + laying[b][further:]
                                fits = fits or plain.is_flat(more, tuple(turns))
                        self.assertEqual(put_in(web, laying, (a, b)) is not None, fits)

    def test_edges(self):
        self.assertEqual([put_in(BARE, ((),), (0, 0)), put_in((2, ()), ((), ()), (0, 1))], [((0, 1),), ((0,), (1,))])
        self.assertEqual(put_in(LINE, ((0,), (1,)), (0, 1)), ((0, 2), (1, 3)))
        self.assertIsNotNone(put_in((3, ((0, 1),)), ((0,), (1,), ()), (0, 2)))
        self.assertIsNone(put_in((5, F[1][1:]), lay((5, F[1][1:])), (0, 1)))


class FacesAtTest(unittest.TestCase):
    def test_sides(self):
        for web in [web for web in small_webs(115, 100) + list(far_webs().values()) if lay(web) is not None]:
            laying = lay(web)
            known = plain.faces(web, laying)
            for tie in range(len(web[1])):
                first, last = sides(web, laying, tie)
                self.assertTrue(2 * tie in known[first] and 2 * tie + 1 in known[last])
        self.assertEqual([sides(LOOP, ((0, 1),), 0), sides(LINE, ((0,), (1,)), 0)], [(0, 1), (0, 0)])

    def test_at_face(self):
        rng = random.Random(116)
        for web in small_webs(116, 150, 6, 9):
            laying = lay(web)
            if laying is None:
                continue
            known = plain.faces(web, laying)
            standing = [{web[1][dart // 2][dart % 2] for dart in face} for face in known]
            for _ in range(12):
                spots = tuple(sorted(rng.sample(range(web[0]), rng.randint(0, min(4, web[0])))))
                places = [number for number, face in enumerate(standing) if set(spots) <= face]
                self.assertEqual(at_face(web, laying, spots), places[0] if places else None)

    def test_edges(self):
        self.assertEqual([at_face(BARE, ((),), ()), at_face(BARE, ((),), (0,)), at_face(LINE, ((0,), (1,)), ())],
                         [None, None, 0])
        self.assertIsNone(at_face((3, ((0, 1),)), ((0,), (1,), ()), (0, 2)))


class NotFlatTest(unittest.TestCase):
    def test_raised_where_a_flat_laying_is_asked_for(self):
        for web, laying in ((W, ODD_LAYING), (with_loops(BARE, 2), ((0, 2, 1, 3),)),
                            (with_spots(W, 6), ODD_LAYING + ((), ()))):
            self.assertIsNone(laying_error(web, laying))
            calls = [lambda: thinned(web, laying, ()), lambda: thinned(web, laying, (0,)),
                     lambda: put_in(web, laying, (0, 0)), lambda: sides(web, laying, 0), lambda: at_face(web, laying, ())]
            for call in calls:
                with self.assertRaises(NotFlat):
                    call()


if __name__ == "__main__":
    unittest.main()
