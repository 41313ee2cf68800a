"""[H1] to [H4], and [A2] (e): changes, and webs with the same rings."""

import itertools
import random
import unittest

from flatbonds.errors import BadChange, Unfit
from flatbonds.rings import bonds, is_ring, rings
from flatbonds.twists import (
    as_ties, changed, form_way, form_way_holds, least_spots, ring_form, ring_of_web, rings_part, same_rings
)
from flatbonds.webs import pieces
import plain
from samples import (
    BARE, F, H, LINE, LOOP, ODD_VALUES, P, R, W, bundle, drawn_parts,
    fan_of_paths, far_webs, ladder, path, random_block, random_web, ring, small_blocks, small_webs,
    tied_on, wheel
)

Q = (4, ((0, 1), (0, 1), (1, 2), (0, 0), (1, 3)))


def sorted_ends(spots, ends):
    return (spots, tuple(tuple(sorted(pair)) for pair in ends))


def changed_by_words(web, change):
    """Where a change leads, by the words of the document; None if it can't be done."""
    spots, ties = web
    word = change[0]
    if word in ("twist", "split"):
        pick = change[1]
        common = plain.shared(web, pick)
        if not 0 < len(pick) < len(ties) or len(common) != (2 if word == "twist" else 1):
            return None
        names = {common[0]: spots} if word == "split" else {common[0]: common[1], common[1]: common[0]}
        ends = [[names.get(spot, spot) for spot in pair] if tie in pick else pair for tie, pair in enumerate(ties)]
        return sorted_ends(spots + (word == "split"), ends)
    if word == "glue":
        spot, further = change[1:]
        if not spot < further or any(spot in piece and further in piece for piece in plain.pieces(web)):
            return None
        ends = [[spot if at == further else at for at in pair] for pair in ties]
        return sorted_ends(spots - 1, [[at - 1 if at > further else at for at in pair] for pair in ends])
    names = change[1]
    told = [name for name in names if name is not None]
    used = {spot for pair in ties for spot in pair}
    if sorted(told) != list(range(len(told))) or not told or any(names[spot] is None for spot in used):
        return None
    return sorted_ends(len(told), [[names[spot] for spot in pair] for pair in ties])


def drawn_changes(rng, web, many):
    """Some changes, such that can be done and such that can't."""
    spots, ties = web
    found = []
    for _ in range(many):
        share = rng.random()
        pick = tuple(tie for tie in range(len(ties)) if rng.random() < share)
        found.extend([("twist", pick), ("split", pick)])
        found.append(("glue", rng.randrange(spots), rng.randrange(spots)))
        used = {spot for pair in ties for spot in pair}
        kept = [spot for spot in range(spots) if spot in used or rng.random() < 0.5] or [0]
        names = [None] * spots
        for name, spot in enumerate(rng.sample(kept, len(kept))):
            names[spot] = name
        found.append(("names", tuple(names)))
        names[rng.randrange(spots)] = rng.choice([None, 0, spots - 1])
        found.append(("names", tuple(names)))
    return found


def changed_often(rng, web, many):
    """The web behind so many drawn changes."""
    for _ in range(many):
        good = [change for change in drawn_changes(rng, web, 3) if changed_by_words(web, change) is not None]
        web = changed_by_words(web, rng.choice(good)) if good else web
    return web


class ChangedTest(unittest.TestCase):
    def test_by_the_words_of_the_document(self):
        rng = random.Random(150)
        counts = {}
        for web in small_webs(150, 250, 7, 8) + small_blocks(150, 60, 7, 9):
            for change in drawn_changes(rng, web, 4):
                known = changed_by_words(web, change)
                counts[(change[0], known is None)] = counts.get((change[0], known is None), 0) + 1
                if known is None:
                    with self.assertRaises(BadChange):
                        changed(web, change)
                    self.assertIs(form_way_holds(web, (change,)), False)
                else:
                    found = changed(web, change)
                    self.assertEqual(found, known)
                    self.assertEqual(rings(found), rings(web))
        self.assertGreater(min(counts.values()), 50, counts)

    def test_all_twists_of_small_blocks(self):
        for web in small_blocks(151, 60, 6, 8):
            for pick in plain.all_picks(web):
                known = changed_by_words(web, ("twist", pick))
                if known is None:
                    with self.assertRaises(BadChange):
                        changed(web, ("twist", pick))
                else:
                    self.assertEqual(changed(web, ("twist", pick)), known)
                    self.assertEqual(rings(known), rings(web))

    def test_known_ones(self):
        self.assertEqual(changed(bundle(3), ("twist", (1,))), bundle(3))
        self.assertEqual(changed(path(3), ("split", (1,))), (4, ((0, 1), (2, 3))))
        self.assertEqual(changed((1, ((0, 0), (0, 0))), ("split", (0,))), (2, ((1, 1), (0, 0))))
        self.assertEqual(changed((4, ((0, 1), (2, 3))), ("glue", 1, 2)), (3, ((0, 1), (1, 2))))
        self.assertEqual(changed((2, ((0, 0), (1, 1))), ("glue", 0, 1)), (1, ((0, 0), (0, 0))))
        self.assertEqual(changed((3, ()), ("names", (None, 0, None))), BARE)
        self.assertEqual(changed((3, ()), ("glue", 0, 2)), (2, ()))
        self.assertEqual(changed(LINE, ("names", (1, 0))), LINE)

    def test_bad_changes(self):
        two = (5, ((0, 1), (2, 3)))
        for web, value in [
                (W, ("twist", (0, 1))), (W, ("twist", (0, 1, 3))), (W, ("twist", ())), (W, ("twist", (0, 1, 2, 3, 4, 5))),
                (two, ("twist", (0,))), (two, ("split", (0,))), (W, ("split", (0,))), (path(3), ("split", (0, 1))),
                (path(3), ("split", ())), (two, ("glue", 0, 1)), (two, ("glue", 2, 1)), (two, ("glue", 1, 1)),
                (two, ("glue", 0, 5)), (two, ("glue", -1, 2)), (two, ("glue", True, 2)), (two, ("glue", 0, 10 ** 399)),
                (two, ("glue", 0, None)), (two, ("glue", 0)), (two, ("glue", 0, 2, 4)), (two, ("glue", (0, 2))),
                (two, ("glue", "0", "2")), (two, ("names", (0, 1, 2, 3, 3))), (two, ("names", (0, 1, 2, 4, None))),
                (two, ("names", (0, 1, 2, None, 3))), (two, ("names", (1, 2, 3, 4, None))), (two, ("names", (0, 1, 2, 3))),
                (two, ("names", [0, 1, 2, 3, 4])), (two, ("names", (False, True, 2, 3, 4))), (two, ("names", ())),
                (two, ("names", (0, 1, 2, 3, "4"))), (two, ("names", (0, 1, 2, 3, (4,)))), (two, ("names", None)),
                (two, ("names", (0, 1, 2, 3, 10 ** 399))), (two, ("names", 0, 1, 2, 3, 4)), (two, ("names",)),
                (two, ("names", (0, 1, 2, 3, [4]))), (two, ("names", {0: 0})), ((2, ()), ("names", (None, None))),
                (two, ("Names", (0, 1, 2, 3, None))), (two, ("", (0, 1, 2, 3, None))), (two, ("Glue", 0, 2)),
                (two, ("", 0, 2)), (two, (None, 0, 2)), (path(3), ("Split", (0,))),
                (R, ["twist", (0, 1)]), (R, ("twist", [0, 1])), (R, ("twist", (1, 0))), (R, ("twist", (0, 0, 1))),
                (R, ("twist", (0, 1), 0)), (R, ("twist",)), (R, ("twist", (False, True))), (R, ("twist", None)),
                (R, ("twist", (0, 6))), (R, ("twist", (-1, 0))), (R, ("Twist", (0, 1))), (R, ("", (0, 1))),
                (R, (None, (0, 1))), (R, ((), (0, 1))), (R, ([], (0, 1))), (R, ({}, (0, 1))), (R, (0, (0, 1)))]:
            with self.assertRaises(BadChange, msg=value):
                changed(web, value)
            self.assertIs(form_way_holds(web, (value,)), False)
        self.assertEqual(changed(two, ("names", (0, 1, 2, 3, None)))[0], 4)

    def test_odd_values(self):
        for web in (W, R, P, LOOP, BARE, (3, ()), (5, ((0, 1), (2, 3)))):
            for value in ODD_VALUES:
                for change in (value, ("twist", value), ("split", value), ("glue", value, 1), ("glue", 0, value),
                               ("names", value), (value, (0, 1)), ("names", (value,) * web[0]), (value,)):
                    told = isinstance(change, tuple) and change[:1] in (("twist",), ("split",), ("glue",), ("names",))
                    if told and repr(change) in [repr(each) for each in self.good_ones(web)]:
                        self.assertEqual(changed(web, change), changed_by_words(web, change))
                    else:
                        with self.assertRaises(BadChange):
                            changed(web, change)

    def good_ones(self, web):
        """Those changes among the odd ones that can be done."""
        changes = [(word, pick) for word in ("twist", "split") for pick in plain.all_picks(web)]
        changes += [("glue", a, b) for a in range(web[0]) for b in range(web[0])]
        names = itertools.product((None, *range(web[0])), repeat=web[0]) if web[0] < 4 else []
        changes += [("names", each) for each in names]
        return [change for change in changes if changed_by_words(web, change) is not None]


class RingFormTest(unittest.TestCase):
    def test_same_rings_same_form(self):
        forms = {}
        for web in small_webs(152, 500, 7, 7) + small_blocks(152, 200, 7, 9):
            key = (len(web[1]), rings(web))
            form = ring_form(web)
            self.assertEqual(form, forms.setdefault(key, form))
            self.assertEqual((len(form[1]), rings(form)), key)
            self.assertEqual(form == BARE or plain.spots_of(form, range(len(form[1]))) == set(range(form[0])), True)
            self.assertEqual(ring_form(form), form)
        self.assertGreater(len(forms), 200)
        self.assertEqual(len(set(forms.values())), len(forms))

    def test_all_webs_with_three_ties(self):
        forms = {}
        for spots in range(1, 7):
            pairs = [(a, b) for a in range(spots) for b in range(a, spots)]
            for ties in itertools.product(pairs, repeat=3) if spots < 5 else []:
                web = (spots, ties)
                forms.setdefault(rings(web), set()).add(ring_form(web))
        self.assertEqual({len(each) for each in forms.values()}, {1})
        self.assertEqual(len({form for each in forms.values() for form in each}), len(forms))

    def test_changes_keep_it(self):
        rng = random.Random(153)
        webs = small_webs(153, 60, 7, 9) + [drawn_parts(rng, most) for most in (10, 20, 40, 60) for _ in range(5)]
        webs += [random_block(rng, spots, 60) for spots in (20, 35, 45, 55)] + [tied_on(R, H, 2), tied_on(W, ring(5), 3)]
        for web in webs:
            form = ring_form(web)
            for _ in range(4):
                web = changed_often(rng, web, 3)
                self.assertEqual(ring_form(web), form)
                self.assertIs(same_rings(web, form), True)

    def test_known_ones(self):
        self.assertEqual([ring_form(BARE), ring_form((60, ())), ring_form(LOOP), ring_form(LINE)], [BARE, BARE, LOOP, LINE])
        self.assertEqual(ring_form(path(60))[0], 118)
        self.assertEqual([ring_form(bundle(60)), ring_form((1, ((0, 0),) * 60))[0]], [bundle(60), 60])
        self.assertEqual(ring_form(P), ring_form(Q))
        rng = random.Random(154)
        order = rng.sample(range(60), 60)
        self.assertEqual(ring_form(as_ties(ring(60), tuple(order))), ring_form(ring(60)))
        # A firm web is told by its rings but for the names of its spots.
        self.assertNotEqual(ring_form(as_ties(wheel(5), (1, 0, 2, 3, 4, 5, 6, 7, 8, 9))), ring_form(wheel(5)))


class FormWayTest(unittest.TestCase):
    def check_way(self, web):
        steps = form_way(web)
        self.assertIs(form_way_holds(web, steps), True)
        at = web
        for step in steps:
            at = changed_by_words(at, step)
        self.assertEqual(at, ring_form(web))
        return steps

    def test_it_leads_there(self):
        rng = random.Random(155)
        for web in small_webs(155, 250, 7, 9) + small_blocks(155, 100, 8, 12) + list(far_webs().values()):
            self.check_way(web)
        for _ in range(40):
            self.check_way(drawn_parts(rng, 60))
        for spots in (10, 25, 40, 50, 59):
            self.check_way(random_block(rng, spots, 60))

    def test_other_ways(self):
        steps = self.check_way(P)
        self.assertIs(form_way_holds(P, steps + (("names", tuple(range(ring_form(P)[0]))),)), True)
        self.assertIs(form_way_holds(P, steps[:-1]), False)
        self.assertIs(form_way_holds(P, ()), False)
        for web in (BARE, LINE, LOOP, bundle(5), ring_form(P), ring_form(ladder(6))):
            self.assertIs(form_way_holds(web, ()), True)
        self.assertIs(form_way_holds((2, ()), (("glue", 0, 1),)), True)
        self.assertIs(form_way_holds((3, ()), (("names", (None, 0, None)),)), True)

    def test_odd_values(self):
        steps = form_way(P)
        for value in ODD_VALUES + [list(steps), tuple(list(step) for step in steps), steps + (None,), (None,) + steps,
                                   steps + ((),), steps + (("twist",),)]:
            if value != ():
                for web in (P, LOOP, W, BARE, (3, ())):
                    self.assertIs(form_way_holds(web, value), False)
        self.assertIs(form_way_holds(W, None), False)


class SameRingsTest(unittest.TestCase):
    def test_against_rings_bonds_and_forms(self):
        rng = random.Random(156)
        counts = [0, 0]
        webs = small_webs(156, 150, 6, 6)
        for web in webs:
            for other in rng.sample(webs, 12) + [changed_often(rng, web, 3)]:
                if len(other[1]) != len(web[1]):
                    for call in (same_rings, rings_part):
                        with self.assertRaises(Unfit):
                            call(web, other)
                    continue
                known = rings(web) == rings(other)
                counts[known] += 1
                self.assertIs(same_rings(web, other), known)
                self.assertEqual(bonds(web) == bonds(other), known)
                self.assertEqual(ring_form(web) == ring_form(other), known)
                found = rings_part(web, other)
                self.assertEqual(found is None, known)
                if found is not None:
                    which, pick = found
                    one, further = [(web, other), (other, web)][which]
                    self.assertIn(pick, rings(one))
                    self.assertNotIn(pick, rings(further))
        self.assertGreater(min(counts), 100)

    def test_far_webs(self):
        rng = random.Random(157)
        for web in far_webs().values():
            self.assertIs(same_rings(web, changed_often(rng, web, 3)), True)
            other = as_ties(web, tuple(rng.sample(range(len(web[1])), len(web[1]))))
            found = rings_part(web, other)
            self.assertEqual(found is None, ring_form(web) == ring_form(other))
            if found is not None:
                one, further = [(web, other), (other, web)][found[0]]
                self.assertTrue(is_ring(one, found[1]))
                self.assertFalse(is_ring(further, found[1]))

    def test_known_ones(self):
        self.assertEqual([same_rings(P, Q), rings_part(P, Q), same_rings(BARE, (60, ()))], [True, None, True])
        # Webs all of whose even picks are even in the other web, but not the other way round.
        self.assertEqual([rings_part(path(3), bundle(2)), rings_part(bundle(2), path(3))], [(1, (0, 1)), (0, (0, 1))])
        two = (2, ((0, 0), (0, 0)))
        self.assertIn(rings_part(bundle(2), two), [(0, (0, 1)), (1, (0,)), (1, (1,))])
        self.assertIn(rings_part(two, bundle(2)), [(0, (0,)), (0, (1,)), (1, (0, 1))])
        with self.assertRaises(Unfit):
            same_rings(W, F)


class AsTiesTest(unittest.TestCase):
    def test_orders(self):
        rng = random.Random(158)
        for web in small_webs(158, 50) + list(far_webs().values()):
            names = tuple(rng.sample(range(len(web[1])), len(web[1])))
            found = as_ties(web, names)
            self.assertEqual(found[0], web[0])
            self.assertEqual(found[1], tuple(web[1][name] for name in names))
            self.assertEqual(as_ties(web, tuple(range(len(web[1])))), web)
        self.assertEqual(as_ties(BARE, ()), BARE)


class RingOfWebTest(unittest.TestCase):
    def test_rings_of_webs(self):
        rng = random.Random(159)
        for web in small_webs(159, 500, 7, 6):
            count = len(web[1])
            if count > 6:
                continue
            picks = list(rings(web))
            picks = tuple(rng.sample(picks, len(picks)) + rng.choices(picks or [()], k=2) * bool(picks))
            found = ring_of_web(count, picks)
            self.assertEqual((len(found[1]), rings(found)), (count, rings(web)))
            self.assertTrue(all(0 <= a <= b < found[0] for a, b in found[1]))

    def test_all_picks_of_three_ties(self):
        known = set()
        for spots in range(1, 5):
            pairs = [(a, b) for a in range(spots) for b in range(a, spots)]
            known.update(rings((spots, ties)) for ties in itertools.product(pairs, repeat=3))
        every = [pick for many in range(4) for pick in itertools.combinations(range(3), many)]
        for many in range(len(every) + 1):
            for picks in itertools.combinations(every, many):
                found = ring_of_web(3, picks)
                self.assertEqual(found is not None, tuple(sorted(picks)) in known)
                if found is not None:
                    self.assertEqual(rings(found), tuple(sorted(picks)))

    def test_drawn_picks(self):
        rng = random.Random(160)
        counts = [0, 0]
        known = {}
        for count in (4, 5, 6):
            known[count] = {rings(random_web(rng, rng.randint(1, count + 1), count)) for _ in range(3000)}
        for _ in range(1500):
            count = rng.choice((4, 5, 6))
            picks = set(rng.choice(sorted(known[count])))
            for _ in range(rng.randint(0, 2)):
                picks ^= {tuple(tie for tie in range(count) if rng.random() < 0.5)}
            found = ring_of_web(count, tuple(picks))
            counts[found is not None] += 1
            if found is not None:
                self.assertEqual((len(found[1]), rings(found)), (count, tuple(sorted(picks))))
            else:
                self.assertNotIn(tuple(sorted(picks)), known[count])
        self.assertGreater(min(counts), 200)

    def test_known_ones(self):
        self.assertEqual([ring_of_web(0, ()), ring_of_web(0, ((),)), ring_of_web(2, ((),)), ring_of_web(3, ((0, 1), ()))],
                         [BARE, None, None, None])
        self.assertEqual(rings(ring_of_web(6, ())), ())
        self.assertEqual(rings(ring_of_web(6, rings(W))), rings(W))
        self.assertIsNone(ring_of_web(4, tuple(itertools.combinations(range(4), 3))))
        self.assertIsNone(ring_of_web(3, ((0,), (0, 1))))
        self.assertIsNone(ring_of_web(6, rings(W)[1:]))

    def test_somewhat_beyond(self):
        for web in (wheel(4), ring(8), bundle(7), path(8), tied_on(W, LINE), fan_of_paths(4, 2)):
            self.assertEqual(rings(ring_of_web(len(web[1]), rings(web))), rings(web))
        # Seven ties with seven rows of three, each two of which have one tie in common, and the rests of the rows.
        rows = [(0, 1, 3), (1, 2, 4), (2, 3, 5), (3, 4, 6), (0, 4, 5), (1, 5, 6), (0, 2, 6)]
        rests = [tuple(tie for tie in range(7) if tie not in row) for row in rows]
        self.assertIsNone(ring_of_web(7, tuple(rows + rests)))


class LeastSpotsTest(unittest.TestCase):
    def test_of_all_webs_with_the_rings(self):
        least = {}
        for spots in range(1, 5):
            pairs = [(a, b) for a in range(spots) for b in range(a, spots)]
            for ties in itertools.product(pairs, repeat=3):
                least.setdefault(rings((spots, ties)), spots)
        for spots in range(1, 5):
            pairs = [(a, b) for a in range(spots) for b in range(a, spots)]
            for ties in itertools.product(pairs, repeat=3):
                self.assertEqual(least_spots((spots, ties)), least[rings((spots, ties))])

    def test_whole_webs_have_just_so_many(self):
        for web in small_webs(161, 150) + list(far_webs().values()):
            self.assertEqual(least_spots(web), web[0] - len(pieces(web)) + 1)
            self.assertEqual(least_spots(ring_form(web)), least_spots(web))
        self.assertEqual([least_spots(BARE), least_spots((60, ())), least_spots(path(60)), least_spots(LOOP)],
                         [1, 1, 60, 1])


if __name__ == "__main__":
    unittest.main()
