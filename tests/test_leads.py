"""[K1] to [K3]: leads of webs, and those that keep layings."""

import random
import unittest
from itertools import combinations, permutations

import plain
from flatbonds.errors import NotFlat, NotWhole, TooMany
from flatbonds.layings import all_layings, how_many, is_flat, lay, over, thinned
from flatbonds.leads import laying_code, laying_lead, lead, lead_holds, own_leads, unlike_layings
from flatbonds.webs import pieces
from samples import (
    BARE, F, H, LINE, LOOP, ODD_VALUES, P, PETERSEN, R, T, W, beside_one_another, bundle, cubic_web, drawn_order,
    drawn_parts, far_webs, flat_web, full, ladder, path, prism, random_web, ring, small_blocks, small_webs, tied_on,
    wheel, with_loops, with_spots
)

L = ((0, 2, 4), (1, 8, 6), (3, 7, 10), (5, 11, 9))
# Sixteen spots each, with six neighbours, each two of which have two further ones in common; yet no lead between them.
ROOK = (16, tuple((a, b) for a, b in combinations(range(16), 2) if a // 4 == b // 4 or a % 4 == b % 4))
STEPS = ((0, 1), (0, 3), (1, 0), (3, 0), (1, 1), (3, 3))
SHRIKHANDE = (16, tuple((a, b) for a, b in combinations(range(16), 2)
                        if ((b // 4 - a // 4) % 4, (b % 4 - a % 4) % 4) in STEPS))


def gadgets(is_twisted):
    """Four gadgets of ten spots, one of each pair of ties between them straight or crossed: hard to tell apart."""
    pairs = list(combinations(range(4), 2))
    names, ties = {}, []

    def name(*what):
        return names.setdefault(what, len(names))

    for spot in range(4):
        near = [pair for pair in pairs if spot in pair]
        for many in (0, 2):
            for some in combinations(near, many):
                ties.extend((name(spot, some), name(spot, pair, pair in some)) for pair in near)
    for low, high in pairs:
        for which in (False, True):
            crossed = is_twisted and (low, high) == (0, 1)
            ties.append((name(low, (low, high), which), name(high, (low, high), which != crossed)))
    return (len(names), tuple(tuple(sorted(ends)) for ends in ties))


def cone(*rims):
    """A spot 0 with a tie to each spot of some rings."""
    web = beside_one_another(*[ring(many) for many in rims])
    return (web[0] + 1, tuple((0, at + 1) for at in range(web[0])) + tuple((a + 1, b + 1) for a, b in web[1]))


def with_loop_each(web):
    return (web[0], web[1] + tuple((at, at) for at in range(web[0])))


def is_told_lead(web, other, value):
    """By words: whether value is a pair that leads each spot and tie to one, and each one just once."""
    spots, ties = value
    rows = sorted(spots) == list(range(other[0])) and sorted(ties) == list(range(len(other[1])))
    return rows and len(spots) == web[0] and len(ties) == len(web[1]) and plain.is_lead(web, other, spots, ties)


def has_lead(web, other):
    """By words, for webs with a few spots: whether some order of the spots leads the ties to those of the other web."""
    goals = sorted(other[1])
    return any(sorted(tuple(sorted((spots[a], spots[b]))) for a, b in web[1]) == goals
               for spots in permutations(range(other[0])))


class LeadHoldsTest(unittest.TestCase):
    def test_by_words(self):
        rng = random.Random(300)
        holding = 0
        for web in small_webs(300, 60, 4, 5):
            for other in (web, drawn_order(rng, web), drawn_order(rng, web)):
                known = plain.all_leads(web, other)
                for value in known[:20]:
                    self.assertIs(lead_holds(web, other, value), True)
                    holding += 1
                for _ in range(15):
                    value = (tuple(rng.sample(range(web[0]), web[0])),
                             tuple(rng.sample(range(len(web[1])), len(web[1]))))
                    self.assertIs(lead_holds(web, other, value), value in known)
        self.assertGreater(holding, 300)

    def test_other_sizes(self):
        every = (tuple(range(4)), tuple(range(6)))
        self.assertIs(lead_holds(W, W, every), True)
        self.assertIs(lead_holds(W, with_spots(W, 5), every), False)
        self.assertIs(lead_holds(with_spots(W, 5), W, every), False)
        self.assertIs(lead_holds(with_spots(W, 5), W, (every[0] + (3,), every[1])), False)
        self.assertIs(lead_holds(W, (4, W[1][:5]), every), False)
        self.assertIs(lead_holds((4, W[1][:5]), W, (every[0], every[1][:5])), False)
        self.assertIs(lead_holds(W, H, every), False)
        self.assertIs(lead_holds(BARE, BARE, ((0,), ())), True)
        self.assertIs(lead_holds((2, ()), (2, ()), ((1, 0), ())), True)
        self.assertIs(lead_holds((2, ()), (2, ()), ((1, 1), ())), False)

    def test_wrong_values(self):
        spots, ties = (1, 0, 2, 3), (0, 3, 4, 1, 2, 5)
        self.assertIs(lead_holds(W, W, (spots, ties)), True)
        values = ODD_VALUES + [
            [spots, ties], (spots,), (spots, ties, ()), (list(spots), ties), (spots, list(ties)), (spots, None),
            (None, ties), ("1023", ties), (spots, "034125"), ((True, False, 2, 3), ties), ((1, False, 2, 3), ties),
            (spots, (False, 3, 4, 1, 2, 5)), (spots, (0, 3, 4, True, 2, 5)), (spots[:3], ties), (spots, ties[:5]),
            (spots + (4,), ties), (spots, ties + (6,)), ((1, 0, 2, 2), ties), (spots, (0, 3, 4, 1, 2, 2)),
            ((1, 0, 2, 4), ties), (spots, (0, 3, 4, 1, 2, 6)), ((1, 0, 2, -1), ties), (spots, (0, 3, 4, 1, 2, -1)),
            ((1, 0, 2, 10 ** 399), ties), ((1, 0, 2, None), ties), ((1, 0, 2, (3,)), ties), ({1: 0}, ties),
            (spots, tuple(range(6))), ((0, 1, 2, 3), ties), {"spots": spots}, (ties, spots),
            (spots, ((0,), 3, 4, 1, 2, 5)), tuple(range(3000)), "x" * 3000,
        ]
        for value in values:
            self.assertIs(lead_holds(W, W, value), False)


class LeadTest(unittest.TestCase):
    def check(self, web, other):
        found = lead(web, other)
        self.assertIsNotNone(found)
        self.assertTrue(is_told_lead(web, other, found))
        self.assertIs(lead_holds(web, other, found), True)

    def test_exactly_where_some_order_is_one(self):
        rng = random.Random(310)
        webs = small_webs(310, 250, 4, 5)
        found = 0
        for at, web in enumerate(webs):
            self.check(web, drawn_order(rng, web))
            for other in webs[at:]:
                if web[0] == other[0] and len(web[1]) == len(other[1]):
                    known = plain.all_leads(web, other)
                    if known:
                        self.check(web, other)
                        found += 1
                    else:
                        self.assertIsNone(lead(web, other))
                else:
                    self.assertIsNone(lead(web, other))
        self.assertGreater(found, 500)

    def test_loops_ties_beside_one_another_and_bare_spots(self):
        for web, other in ((with_loops(LINE, 2), with_loops(LINE, 2, 1)), (with_spots(W, 9), with_spots(W, 9)),
                           (P, (4, ((1, 3), (1, 1), (0, 2), (1, 2), (0, 2)))),
                           ((3, ((0, 0), (1, 1))), (3, ((1, 1), (2, 2))))):
            self.check(web, other)
        for web, other in ((with_loops(path(3), 1), with_loops(path(3), 1, 1)), (with_spots(LINE, 3), LINE), (W, H),
                           ((2, ((0, 0),) * 2), (2, ((0, 0), (1, 1)))), ((3, ((0, 1), (0, 1), (1, 2))), path(3)),
                           ((3, ((0, 1), (0, 1), (1, 2), (1, 2))), (3, ((0, 1), (0, 1), (0, 1), (1, 2)))),
                           (P, (4, ((1, 3), (2, 2), (0, 2), (1, 2), (0, 2))))):
            self.assertIsNone(lead(web, other))

    def test_webs_with_other_names(self):
        rng = random.Random(313)
        for _ in range(1500):
            web = random_web(rng, rng.randint(4, 10), rng.randint(3, 14), rng.random() < 0.6)
            self.check(web, drawn_order(rng, web))

    def test_cells_that_are_split_while_they_wait(self):
        """Webs whose spots are told apart only if each part of a cell that waits to be looked at waits, too."""
        pairs = [((6, ((0, 5), (0, 3), (3, 4), (0, 1), (0, 0), (4, 4), (3, 4), (1, 1), (0, 2), (3, 4))),
                  (6, ((0, 0), (4, 4), (4, 5), (0, 1), (4, 5), (1, 3), (1, 5), (4, 5), (1, 2), (1, 1)))),
                 ((9, ((2, 5), (0, 3), (4, 7), (3, 7), (1, 8), (0, 5), (0, 7), (3, 8), (1, 6))),
                  (9, ((1, 3), (2, 7), (2, 3), (0, 8), (5, 7), (4, 6), (3, 8), (2, 8), (0, 4))))]
        for web, other in pairs:
            self.check(web, other)
            self.check(other, web)

    def test_two_ties_that_change_ends(self):
        """Webs with as many ties at each spot, of which some have a lead between them and some have none."""
        rng = random.Random(314)
        found = {True: 0, False: 0}
        for _ in range(150):
            web = random_web(rng, rng.randint(4, 6), rng.randint(4, 9), rng.random() < 0.5)
            ties = list(web[1])
            for _ in range(2):
                one, two = rng.sample(range(len(ties)), 2)
                (a, b), (c, d) = ties[one], ties[two]
                ties[one], ties[two] = tuple(sorted((a, d))), tuple(sorted((c, b)))
            other = drawn_order(rng, (web[0], tuple(ties)))
            told = lead(web, other)
            self.assertTrue(told is None or is_told_lead(web, other, told))
            known = has_lead(web, other)
            self.assertIs(told is not None, known)
            found[known] += 1
        self.assertGreater(min(found.values()), 30)

    def test_spots_that_look_alike_and_are_not(self):
        """Two spots, one beside all of two rings of three, the other one beside all of a ring of six."""
        rims = ((2, 3), (3, 4), (2, 4), (5, 6), (6, 7), (5, 7), (8, 9), (9, 10), (10, 11), (11, 12), (12, 13), (8, 13))
        web = (14, ((0, 1), *[(at // 8, at) for at in range(2, 14)], *rims))
        turned = (14, ((0, 1), *[(1 - at // 8, at) for at in range(2, 14)], *rims))
        for one, two in ((web, web), (web, turned), (turned, web), (turned, turned)):
            self.check(one, two)
        self.assertEqual(len(own_leads(web)), 72 * 12)
        other = (14, ((0, 1), *[(at // 8, at) for at in range(2, 14)], *rims[:6], (8, 9), (9, 10), (8, 10), (11, 12),
                      (12, 13), (11, 13)))
        self.assertIsNone(lead(web, other))
        self.assertIsNone(lead(other, web))

    def test_other_numbers_of_spots_and_ties(self):
        for web, other in ((LINE, (2, ())), (with_spots(W, 5), (5, W[1][:5])), (LOOP, BARE), (W, with_spots(W, 5)),
                           ((3, ()), (2, ())), (ring(5), (5, ring(5)[1] + ((0, 2),))), (bundle(3), bundle(4)),
                           (with_loops(LINE, 1), with_loops(LINE, 2))):
            self.assertIsNone(lead(web, other))
            self.assertIsNone(lead(other, web))

    def test_hard_to_tell_apart(self):
        rng = random.Random(311)
        alike = [ROOK, SHRIKHANDE, gadgets(False), gadgets(True), PETERSEN, F, T, cubic_web(rng, 40), cone(3, 3, 6, 6),
                 beside_one_another(PETERSEN, PETERSEN, prism(5), prism(5)), full(11)]
        for web in alike:
            self.check(web, drawn_order(rng, web))
        pairs = [(ROOK, SHRIKHANDE), (gadgets(False), gadgets(True)), (cubic_web(rng, 40), cubic_web(rng, 40)),
                 (cone(3, 3, 6, 6), cone(3, 3, 3, 3, 6)), (PETERSEN, prism(5)),
                 (beside_one_another(PETERSEN, PETERSEN, prism(5)), beside_one_another(PETERSEN, prism(5), prism(5))),
                 (beside_one_another(ring(10), ring(20), ring(30)), beside_one_another(ring(10), ring(25), ring(25))),
                 (beside_one_another(*[ring(3)] * 20), beside_one_another(*[ring(3)] * 18, ring(6)))]
        for web, other in pairs:
            self.assertEqual((web[0], len(web[1])), (other[0], len(other[1])))
            self.assertIsNone(lead(web, drawn_order(rng, other)))
            self.assertIsNone(lead(drawn_order(rng, other), web))

    def test_far_webs(self):
        rng = random.Random(312)
        webs = list(far_webs().values()) + [drawn_parts(rng, 60) for _ in range(20)]
        for web in webs:
            self.check(web, drawn_order(rng, web))
            for other in rng.sample(webs, 5):
                found = lead(web, other)
                self.assertTrue(found is None or is_told_lead(web, other, found))


class OwnLeadsTest(unittest.TestCase):
    def test_by_all_orders(self):
        tried, many = 0, 0
        for web in small_webs(320, 150, 5, 6) + small_blocks(320, 20, 5, 7):
            if web[0] > 6 or len(web[1]) > 9:
                continue
            known = plain.all_leads(web, web)
            if len(known) > 1000:
                many += 1
                with self.assertRaises(TooMany) as caught:
                    own_leads(web)
                self.assertEqual(caught.exception.limit, 1000)
            else:
                tried += 1
                self.assertEqual(own_leads(web), tuple(known))
        self.assertGreater(tried, 100)

    def test_exactly_a_thousand_and_more(self):
        thousand = beside_one_another(ring(5), wheel(5), with_loop_each(ring(5)))
        found = own_leads(thousand)
        self.assertEqual(len(found), 1000)
        self.assertEqual(list(found), sorted(set(found)))
        self.assertTrue(all(is_told_lead(thousand, thousand, each) for each in found))
        thousand = drawn_order(random.Random(321), with_loops(thousand, 1, 5))
        self.assertEqual(len(own_leads(thousand)), 1000)
        # The first one has 1008: 14 by its ring of seven, by 3! of its loops, 3! of its bare spots and 2 of its pair.
        for web in (beside_one_another(ring(7), with_spots((1, ((0, 0),) * 3), 4), (3, ((0, 1), (0, 1), (1, 2)))),
                    with_spots(LOOP, 8), (1, ((0, 0),) * 7), bundle(7), (7, ()), ROOK, full(7), with_spots(W, 9),
                    (60, ()), (1, ((0, 0),) * 60), bundle(60)):
            with self.assertRaises(TooMany) as caught:
                own_leads(web)
            self.assertEqual(caught.exception.limit, 1000)
        for web, many in (((6, ()), 720), (bundle(5), 240), ((1, ((0, 0),) * 6), 720), (SHRIKHANDE, 192),
                          (PETERSEN, 120), (beside_one_another(bundle(3), bundle(3)), 288),
                          (with_spots(W, 8), 24 * 24), (F, 120), (T, 72), (ring(60), 120), (prism(15), 60),
                          (wheel(30), 60), (path(60), 2), (ladder(20), 4)):
            self.assertEqual(len(own_leads(web)), many)

    def test_edges(self):
        self.assertEqual(own_leads(BARE), (((0,), ()),))
        self.assertEqual(own_leads(LOOP), (((0,), (0,)),))
        self.assertEqual(own_leads(LINE), (((0, 1), (0,)), ((1, 0), (0,))))
        self.assertEqual(own_leads((2, ())), (((0, 1), ()), ((1, 0), ())))
        self.assertEqual(own_leads(P), (((0, 1, 2, 3), (0, 1, 2, 3, 4)), ((0, 1, 2, 3), (1, 0, 2, 3, 4))))

    def test_far_webs(self):
        rng = random.Random(322)
        listed = 0
        for web in list(far_webs().values()) + [drawn_parts(rng, 60) for _ in range(30)] + [cubic_web(rng, 40)]:
            try:
                found = own_leads(web)
            except TooMany:
                continue
            listed += 1
            self.assertEqual(list(found), sorted(set(found)))
            self.assertIn((tuple(range(web[0])), tuple(range(len(web[1])))), found)
            for each in found[::1 + len(found) // 20]:
                self.assertIs(lead_holds(web, web, each), True)
            # They are a group: one behind another is one, too.
            for _ in range(5):
                one, two = rng.choice(found), rng.choice(found)
                both = tuple(tuple(further[at] for at in row) for row, further in zip(one, two))
                self.assertIn(both, found)
            self.assertEqual(len(own_leads(drawn_order(rng, web))), len(found))
        self.assertGreater(listed, 10)


class KeptLayingsTest(unittest.TestCase):
    def whole_webs(self, seed, many, spots=4, ties=5):
        found = small_webs(seed, many, spots, ties) + small_blocks(seed, many // 4, spots, ties + 1)
        return [web for web in found if web[1] and len(web[1]) <= 6 and len(pieces(web)) == 1 and how_many(web) <= 1000]

    def led(self, web, laying, value, other):
        """A laying of other to which the lead from the web leads the laying."""
        spots, ties = value
        turns = [None] * other[0]
        for spot, turn in enumerate(laying):
            row = []
            for dart in turn:
                goal = ties[dart // 2]
                a, b = other[1][goal]
                row.append(2 * goal + (dart % 2 if a == b or a == spots[web[1][dart // 2][0]] else 1 - dart % 2))
            at = row.index(min(row))
            turns[spots[spot]] = tuple(row[at:] + row[:at])
        return tuple(turns)

    def test_leads_that_keep_layings(self):
        rng = random.Random(330)
        found = {True: 0, False: 0}
        for web in self.whole_webs(330, 90):
            layings = all_layings(web)
            for other in (web, drawn_order(rng, web)):
                leads = plain.all_leads(web, other)
                for _ in range(3 if layings else 0):
                    laying, last = rng.choice(layings), rng.choice(all_layings(other))
                    told = laying_lead(web, laying, other, last)
                    keeping = [each for each in leads if plain.keeps(web, laying, other, last, each)]
                    if told is None:
                        self.assertEqual(keeping, [])
                    else:
                        self.assertIn(told, keeping)
                    same = laying_code(web, laying) == laying_code(other, last)
                    self.assertIs(same, told is not None)
                    found[same] += 1
        self.assertGreater(min(found.values()), 50)

    def test_codes_of_many_webs(self):
        """Two layings of small webs have the same code just if a lead from the one web to the other one keeps them."""
        codes = {}
        for web in self.whole_webs(331, 60, 3, 4) + [BARE]:
            if web[1]:
                for laying in all_layings(web):
                    codes.setdefault(laying_code(web, laying), []).append((web, laying))
        for code, rows in codes.items():
            self.assertTrue(type(code) is tuple and all(type(each) is int and abs(each) < 10 ** 150 for each in code))
            (web, laying), *others = rows
            for other, last in others[:10]:
                self.assertIsNotNone(laying_lead(web, laying, other, last))
        heads = [rows[0] for rows in codes.values()]
        self.assertGreater(len(heads), 20)
        for (web, laying), (other, last) in combinations(heads, 2):
            self.assertIsNone(laying_lead(web, laying, other, last))

    def test_over_and_names_make_no_difference(self):
        rng = random.Random(332)
        webs = [W, H, P, R, wheel(6), prism(4), bundle(5), LOOP, LINE, with_loops(LINE, 3), ladder(4)]
        webs += [web for web in far_webs().values() if web[1] and len(pieces(web)) == 1 and lay(web) is not None]
        webs += [drawn_parts(rng, 60) for _ in range(10)]
        for web in webs:
            laying = lay(web)
            if laying is None:
                continue
            other = drawn_order(rng, web)
            value = lead(web, other)
            last = self.led(web, laying, value, other)
            self.assertTrue(is_flat(other, last))
            for each in (last, over(other, last)):
                told = laying_lead(web, laying, other, each)
                self.assertTrue(is_told_lead(web, other, told))
                self.assertEqual(laying_code(web, laying), laying_code(other, each))
                if len(web[1]) < 7:
                    self.assertTrue(plain.keeps(web, laying, other, each, told))
                elif not any(a == b for a, b in web[1]):
                    self.assertIn(self.led(web, laying, told, other), (each, over(other, each)))

    def test_other_webs(self):
        self.assertIsNone(laying_lead(W, L, H, lay(H)))
        self.assertIsNone(laying_lead(LINE, lay(LINE), LOOP, lay(LOOP)))
        self.assertIsNone(laying_lead(ring(4), lay(ring(4)), bundle(4), lay(bundle(4))))
        self.assertNotEqual(laying_code(W, L), laying_code(H, lay(H)))
        inner, outer = ((0, 1, 2, 3),), ((0, 1, 3, 2),)
        two = (1, ((0, 0), (0, 0)))
        self.assertIsNotNone(laying_lead(two, inner, two, outer))
        self.assertEqual(laying_code(two, inner), laying_code(two, outer))

    def test_classes(self):
        tried = 0
        for web in self.whole_webs(333, 120, 4, 5):
            layings = all_layings(web)
            if len(layings) * len(plain.all_leads(web, web)) < 500:
                self.assertEqual(unlike_layings(web), len(plain.classes(web, layings)))
                tried += 1
            self.assertEqual(unlike_layings(web), len({laying_code(web, laying) for laying in layings}))
        self.assertGreater(tried, 60)

    def test_unlike_by_codes(self):
        rng = random.Random(334)
        webs = [drawn_parts(rng, rng.randint(10, 60)) for _ in range(100)] + [flat_web(rng, 20, 45) for _ in range(20)]
        webs += [tied_on(wheel(5), R, 2), tied_on(tied_on(ring(4), ring(4)), ring(4), 2), bundle(7), (1, ((0, 0),) * 4),
                 tied_on(tied_on(bundle(3), bundle(3), 1), bundle(3), 2), with_loops(with_loops(path(5), 1, 1), 1, 3)]
        tried = 0
        for web in webs:
            if len(pieces(web)) == 1 and how_many(web) <= 300:
                codes = {laying_code(web, laying) for laying in all_layings(web)}
                self.assertEqual(unlike_layings(web), len(codes))
                tried += 1
        self.assertGreater(tried, 20)
        self.assertEqual([unlike_layings(web) for web in (bundle(7), W, F, LINE)], [1, 1, 0, 1])
        self.assertEqual(unlike_layings((1, ((0, 0),) * 2)), 1)

    def test_more_than_a_thousand_layings(self):
        for web in (bundle(8), (1, ((0, 0),) * 5), bundle(60), (60, tuple((0, at) for at in range(1, 60)))):
            self.assertGreater(how_many(web), 1000)
            with self.assertRaises(TooMany) as caught:
                unlike_layings(web)
            self.assertEqual(caught.exception.limit, 1000)

    def test_order_of_errors(self):
        crossed = next(laying for laying in plain.all_turns(W) if not is_flat(W, laying))
        two = beside_one_another(W, LINE)
        for web in (BARE, (3, ()), two, with_spots(W, 5)):
            flat = lay(web)
            for laying in (flat, (*crossed, *flat[4:])) if web[0] > 3 else (flat,):
                with self.assertRaises(NotWhole):
                    laying_code(web, laying)
                with self.assertRaises(NotWhole):
                    laying_lead(web, laying, W, crossed)
                with self.assertRaises(NotWhole):
                    laying_lead(W, crossed, web, laying)
            with self.assertRaises(NotWhole):
                unlike_layings(web)
        with self.assertRaises(NotWhole):
            unlike_layings((60, ()))
        with self.assertRaises(NotWhole):
            unlike_layings((3, ((0, 0),) * 20))
        with self.assertRaises(NotFlat):
            laying_code(W, crossed)
        for laying, last in ((crossed, L), (L, crossed), (crossed, crossed)):
            with self.assertRaises(NotFlat):
                laying_lead(W, laying, W, last)
        with self.assertRaises(NotFlat):
            laying_lead(W, crossed, H, lay(H))

    def test_thinned_layings(self):
        """A lead that keeps two layings does so if a tie is taken out of the one, and where it leads of the other."""
        for web in (W, prism(3), wheel(4)):
            laying = lay(web)
            for spots, ties in own_leads(web):
                last = self.led(web, laying, (spots, ties), web)
                less = (web[0], web[1][:-1])
                fewer = tuple(ends for tie, ends in enumerate(web[1]) if tie != ties[-1])
                one = thinned(web, laying, (len(web[1]) - 1,))
                two = thinned(web, last, (ties[-1],))
                self.assertIsNotNone(laying_lead(less, one, (web[0], fewer), two))

    def test_own_leads_of_firm_webs(self):
        """Each lead of a firm web to itself keeps its flat laying, or leads it to the other one."""
        for web in (W, prism(3), wheel(5), prism(6)):
            self.assertEqual(unlike_layings(web), 1)
            laying = lay(web)
            for value in own_leads(web):
                self.assertIn(self.led(web, laying, value, web), (laying, over(web, laying)))


if __name__ == "__main__":
    unittest.main()
