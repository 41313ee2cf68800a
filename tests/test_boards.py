"""[N1] to [N3]: boards, their edits, and what takes edits back."""

import random
import unittest

from boarding import (
    batched, board_state, drawn_edit, edited, full_state, is_error, is_laying_behind, is_laying_of, outcome
)
from flatbonds.blocks import blocks
from flatbonds.boards import Board, FlatBoard
from flatbonds.errors import (
    BadWeb, NothingToRedo, NothingToUndo, NoTie, NoVersion, Rejected, TooMany, TooManyEdits, WebError
)
from flatbonds.layings import how_many, is_flat, lay, laying_error, thinned
from flatbonds.papers import forbidden, paper_holds
from flatbonds.texts import parse_web, web_text
from flatbonds.twists import changed
from flatbonds.webs import drawn_in, taken_out, web_error
from samples import (
    BARE, F, H, LINE, LOOP, ODD_VALUES, P, R, T, W, bundle, full, small_blocks, small_webs, with_spots
)

DEEP = ((((((((((((((((((0,),),),),),),),),),),),),),),),),),)
WRONG = ODD_VALUES + [DEEP, "x" * 3000, tuple(range(3000)), [W], {"web": W}, (W,), ((0, 1), (0, 1)), "spot", ("spot",)]


def start_webs(seed, many):
    rng = random.Random(seed)
    return [web for web in small_webs(seed, many, 9, 14) + small_blocks(seed, many // 3, 8, 16) + [F, T, full(7)]
            if web_error(web) is None] + [(rng.randint(1, 14), ()) for _ in range(5)]


class BoardTest(unittest.TestCase):
    def test_at_first(self):
        for web in start_webs(400, 60):
            board = Board(web)
            self.assertEqual((board.web, board.version), (web, 0))
            self.assertTrue(is_laying_of(web, board.laying))
            self.assertEqual(board.count(), how_many(web))
            self.assertEqual(board.news(), (how_many(web),) * 2)
            self.assertEqual(board.blocks(), blocks(web))
            self.assertEqual(str(board), web_text(web))
            self.assertEqual(parse_web(str(board)), web)
            self.assertEqual(board.at(0), web)
            self.assertEqual(board.laying, Board(web).laying)
            paper = board.paper()
            self.assertEqual(paper is None, forbidden(web) is None)
            self.assertTrue(paper is None or paper_holds(web, paper))

    def test_bad_webs(self):
        bad = [(W,), (15, ()), (0, ()), (4, W[1] * 5), (True, ()), (3, [(0, 1)]), (2, ((0, 1), (1, 0))), (2, ((0, 2),)),
               (2, ((0, True),)), [2, ()], (2, ((0, 1), [0, 1])), (2, ((0, 1, 1),)), (2, None), (10 ** 399, ())]
        for value in WRONG + bad:
            for made in (Board, FlatBoard):
                error = web_error(value)
                if error is None:
                    continue
                with self.assertRaises(BadWeb) as caught:
                    made(value)
                self.assertEqual(caught.exception.error, error)
        self.assertEqual(outcome(Board, Board(W)), ("BadWeb", {"error": (None, "web")}))
        self.assertEqual(outcome(Board, (2, Board(W))), ("BadWeb", {"error": (None, "ties")}))

    def test_properties_can_only_be_read(self):
        for board in (Board(W), FlatBoard(W)):
            for name in ("web", "laying", "version"):
                with self.assertRaises(AttributeError):
                    setattr(board, name, getattr(board, name))
                with self.assertRaises(AttributeError):
                    delattr(board, name)
            self.assertEqual((board.web, board.version), (W, 0))

    def test_everything_stands_in_the_class_itself(self):
        names = ["__init__", "__len__", "__getitem__", "__contains__", "__iter__", "__str__", "__eq__", "__ne__", "web",
                 "laying", "version", "count", "paper", "blocks", "spot", "tie", "cut", "draw", "change", "batch",
                 "undo", "redo", "at", "news", "copy", "attempt"]
        for name in names:
            self.assertIn(name, vars(Board))
        for name in ("web", "laying", "version"):
            self.assertIsInstance(vars(Board)[name], property)
        self.assertTrue(issubclass(FlatBoard, Board))
        self.assertIn("__init__", vars(FlatBoard))
        self.assertEqual([Board.__module__, FlatBoard.__module__], ["flatbonds.boards"] * 2)

    def test_arguments_by_name(self):
        board = Board(value=(3, ()))
        self.assertEqual([board.tie(spot=2, other=0), board.tie(other=1, spot=0), board.cut(index=0),
                          board.tie(spot=1, other=2), board.draw(index=0), board.change(value=("names", (1, 0))),
                          board.batch(edits=())], [1, 2, 3, 4, 5, 6, 7])
        self.assertEqual(board.at(version=1), (3, ((0, 2),)))
        self.assertEqual(board.attempt(work=lambda each: each.version), 7)
        self.assertEqual(FlatBoard(value=W).web, W)

    def test_ties_by_index(self):
        for web in (W, P, BARE, LOOP, bundle(28)):
            board = Board(web)
            self.assertEqual([board[index] for index in range(len(board))], list(web[1]))
            for index in WRONG + [-1, len(web[1]), len(web[1]) + 1, True, False, 10 ** 399, -10 ** 399, "0", (0,)]:
                if type(index) is int and 0 <= index < len(web[1]):
                    continue
                with self.assertRaises(NoTie) as caught:
                    board[index]
                self.assertIs(caught.exception.index, index)

    def test_values_in_boards(self):
        for web in (W, P, BARE, LOOP, LINE):
            board = Board(web)
            for a in range(-1, 5):
                for b in range(-1, 5):
                    self.assertIs((a, b) in board, (a, b) in web[1])
            for value in WRONG + [(True, False), (False, True), (0, True), (False, 1), [0, 1], (0, 1, 1), (0,), (1, 0),
                                  (0, "1"), (0, (1,)), (None, 1), (0, [1]), (0, {}), (10 ** 399, 1)]:
                if value in ((0, 1), (0, 0)) and type(value[1]) is int and type(value[0]) is int:
                    continue
                self.assertIs(value in board, False)
        self.assertIs((0, 0) in Board(LOOP), True)
        self.assertIs((False, 0) in Board(LOOP), False)

    def test_iterating(self):
        board = Board(P)
        self.assertEqual((len(board), list(board), tuple(board)), (5, list(P[1]), P[1]))
        rows = iter(board)
        self.assertEqual(next(rows), (0, 1))
        board.cut(0)
        board.tie(3, 3)
        self.assertEqual(list(rows), [(0, 1), (1, 2), (2, 2), (2, 3)])
        self.assertEqual(list(board), [(0, 1), (1, 2), (2, 2), (2, 3), (3, 3)])
        self.assertEqual([tie for tie in Board(BARE)], [])
        self.assertEqual([(a, b) for a, b in zip(board, board)], [(each, each) for each in board])

    def test_equal_boards(self):
        board = Board(P)
        other = Board(P)
        self.assertTrue(board == other and not board != other)
        other.spot()
        self.assertTrue(board != other and not board == other)
        other.undo()
        self.assertTrue(board == other)
        self.assertTrue(FlatBoard(P) == board and board == FlatBoard(P) and not FlatBoard(P) != board)
        self.assertTrue(Board(W) != FlatBoard(H) and FlatBoard(H) != Board(W))
        for value in WRONG + [P, str(board), list(P[1]), P[1], object()]:
            self.assertIs(board == value, False)
            self.assertIs(value == board, False)
            self.assertIs(board != value, True)
        self.assertTrue(Board((2, ((0, 1), (0, 0)))) != Board((2, ((0, 0), (0, 1)))))


class EditTest(unittest.TestCase):
    def check_seen(self, board):
        """What the board tells against the functions of the other modules."""
        web = board.web
        self.assertIsNone(web_error(web))
        self.assertEqual((len(board), tuple(board), str(board)), (len(web[1]), web[1], web_text(web)))
        self.assertEqual((board.count(), board.blocks()), (how_many(web), blocks(web)))
        self.assertEqual(board.news()[1], how_many(web))
        self.assertTrue(is_laying_of(web, board.laying))
        self.assertTrue(board.paper() is None if board.laying else paper_holds(web, board.paper()))

    def check_rows(self, seed, web, steps, kind=Board):
        """Edits, undos and redos at random, against the words of the document."""
        rng = random.Random(seed)
        board = kind(web)
        webs, layings, at, before = [web], [board.laying], 0, web
        for _ in range(steps):
            now, laying = webs[at], layings[at]
            step = rng.random()
            if step < 0.7:
                edit = drawn_edit(rng, now)
                goal = edited(now, *edit)
                told = outcome(getattr(board, edit[0]), *edit[1:])
                if not is_error(goal) and at == 40:
                    goal = ("TooManyEdits", {})
                if is_error(goal):
                    self.assertEqual(told, goal)
                else:
                    self.assertTrue(is_laying_behind(edit, now, laying, goal, board.laying), (now, edit))
                    webs[at + 1:], layings[at + 1:] = [goal], [board.laying]
                    at, before = at + 1, now
                    self.assertEqual(told, at)
            elif step < 0.85:
                told = outcome(board.undo)
                if at == 0:
                    self.assertEqual(told, ("NothingToUndo", {}))
                else:
                    at, before = at - 1, now
                    self.assertEqual(told, at)
            else:
                told = outcome(board.redo)
                if at + 1 == len(webs):
                    self.assertEqual(told, ("NothingToRedo", {}))
                else:
                    at, before = at + 1, now
                    self.assertEqual(told, at)
            self.assertEqual((board.web, board.laying, board.version), (webs[at], layings[at], at))
            self.assertEqual(board.news(), (how_many(before), how_many(webs[at])))
            self.assertEqual([board.at(version) for version in range(at + 1)], webs[:at + 1])
        self.check_seen(board)
        return board

    def test_rows_of_edits(self):
        for seed, web in enumerate(start_webs(410, 60)):
            self.check_rows(seed, web, 25)
        for seed in range(10):
            self.check_rows(seed, (6, ()), 120)

    def test_seen_behind_each_edit(self):
        rng = random.Random(411)
        for web in start_webs(411, 20):
            board = Board(web)
            for _ in range(12):
                edit = drawn_edit(rng, board.web)
                outcome(getattr(board, edit[0]), *edit[1:])
                self.check_seen(board)
                outcome(rng.choice([board.undo, board.redo]))
                self.check_seen(board)

    def test_equal_rows_of_edits_tell_the_same(self):
        for seed, web in enumerate(start_webs(412, 15)):
            one, two = self.check_rows(seed, web, 20), self.check_rows(seed, web, 20)
            self.assertEqual(full_state(one), full_state(two))

    def test_spot(self):
        board = Board(W)
        old = board.laying
        self.assertEqual([board.spot(), board.spot(), board.web, board.laying],
                         [1, 2, (6, W[1]), (*old, (), ())])
        crossed = Board(F)
        crossed.spot()
        self.assertIsNone(crossed.laying)

    def test_tie(self):
        board = Board((3, ((0, 1), (1, 2))))
        old = board.laying
        self.assertEqual([board.tie(2, 0), board.web], [1, (3, ((0, 1), (1, 2), (0, 2)))])
        self.assertEqual(thinned(board.web, board.laying, (2,)), old)
        old = board.laying
        self.assertEqual([board.tie(1, 1), board[3]], [2, (1, 1)])
        self.assertEqual(thinned(board.web, board.laying, (3,)), old)

    def test_tie_that_asks_for_another_laying(self):
        """A laying in which the ends of the tie stand at no face together, though in another one they do."""
        web = (6, ((0, 1), (1, 2), (2, 3), (0, 3), (0, 4), (2, 4), (0, 5), (2, 5)))
        board = Board(web)
        kept, changed_ones = 0, 0
        for a in range(6):
            for b in range(a + 1, 6):
                further = (6, (*web[1], (a, b)))
                board = Board(web)
                old = board.laying
                board.tie(a, b)
                self.assertTrue(is_laying_behind(("tie", a, b), web, old, further, board.laying))
                if thinned(further, board.laying, (8,)) == old:
                    kept += 1
                else:
                    changed_ones += 1
        self.assertTrue(kept and changed_ones)

    def test_tie_that_crosses(self):
        board = Board((5, F[1][:-1]))
        self.assertIsNotNone(board.laying)
        self.assertEqual([board.tie(4, 3), board.web, board.laying, board.count()], [1, F, None, 0])
        self.assertTrue(paper_holds(F, board.paper()))
        self.assertEqual([board.spot(), board.tie(0, 5), board.laying], [2, 3, None])
        self.assertEqual(board.cut(9), 4)
        self.assertTrue(is_flat(board.web, board.laying))
        self.assertEqual(laying_error(board.web, board.laying), None)
        self.assertIsNone(board.paper())

    def test_cut_and_draw(self):
        for web in (W, P, H, R, bundle(4), LOOP, LINE):
            for index in range(len(web[1])):
                board = Board(web)
                old = board.laying
                self.assertEqual([board.cut(index), board.web], [1, taken_out(web, (index,))])
                self.assertEqual(board.laying, thinned(web, old, (index,)))
                board = Board(web)
                self.assertEqual([board.draw(index), board.web], [1, drawn_in(web, index)])
                self.assertTrue(is_laying_of(board.web, board.laying))

    def test_change(self):
        board = Board(P)
        for change in (("split", (0, 1)), ("glue", 1, 4), ("names", (3, 2, 1, 0))):
            goal = changed(board.web, change)
            board.change(change)
            self.assertEqual(board.web, goal)
            self.assertTrue(is_laying_of(goal, board.laying))
        for value in WRONG + [("twist", (3,)), ("glue", 0, 1), ("names", (0, 0, 1, 2)), ("split", [0]), ("over",)]:
            before = full_state(board)
            self.assertEqual(outcome(board.change, value), ("BadChange", {}))
            self.assertEqual(full_state(board), before)

    def test_wrong_arguments(self):
        for web in (W, BARE, P):
            board = Board(web)
            board.spot()
            board.undo()
            before = full_state(board)
            for value in WRONG + [-1, web[0], len(web[1]), 10 ** 399, True, False, None]:
                is_spot = type(value) is int and 0 <= value < web[0]
                is_tie = type(value) is int and 0 <= value < len(web[1])
                if not is_spot:
                    self.assertIs(outcome(board.tie, value, 0)[1]["spot"], value)
                    self.assertIs(outcome(board.tie, 0, value)[1]["spot"], value)
                    self.assertIs(outcome(board.tie, value, None)[1]["spot"], value)
                    self.assertEqual(outcome(board.tie, 0, value)[0], "NoSpot")
                if not is_tie:
                    for call in (board.cut, board.draw):
                        self.assertEqual(outcome(call, value)[0], "NoTie")
                        self.assertIs(outcome(call, value)[1]["index"], value)
                if not (type(value) is int and value == 0):
                    self.assertEqual(outcome(board.at, value)[0], "NoVersion")
                    self.assertIs(outcome(board.at, value)[1]["given"], value)
            self.assertEqual(full_state(board), before)

    def test_most_spots_and_ties(self):
        board = Board((13, ()))
        self.assertEqual(board.spot(), 1)
        self.assertEqual(outcome(board.spot), ("TooMany", {"limit": 14}))
        board = Board((3, ((0, 1),) * 27))
        self.assertEqual(board.tie(0, 2), 1)
        self.assertEqual(outcome(board.tie, 1, 1), ("TooMany", {"limit": 28}))
        self.assertEqual(outcome(board.tie, 3, 1), ("NoSpot", {"spot": 3}))
        self.assertEqual(outcome(board.tie, 1, True), ("NoSpot", {"spot": True}))
        self.assertEqual(outcome(board.tie, [], {}), ("NoSpot", {"spot": []}))
        web = with_spots(P, 14)
        board = Board(web)
        self.assertEqual(outcome(board.change, ("split", (0, 1))), ("TooMany", {"limit": 14}))
        self.assertEqual(outcome(board.change, ("split", (0,))), ("BadChange", {}))
        self.assertEqual([board.change(("glue", 4, 5)), board.change(("split", (0, 1))), board.web[0]], [1, 2, 14])
        board = Board(with_spots(bundle(28), 14))
        self.assertEqual([outcome(board.spot), outcome(board.tie, 0, 1)],
                         [("TooMany", {"limit": 14}), ("TooMany", {"limit": 28})])

    def test_forty_edits(self):
        board = Board((13, ((0, 1),) * 10))
        for version in range(1, 41):
            self.assertEqual(board.tie(0, 1) if version % 2 else board.cut(0), version)
        before = full_state(board)
        calls = [(board.spot, ()), (board.tie, (0, 5)), (board.cut, (3,)), (board.draw, (0,)), (board.batch, ((),)),
                 (board.change, (("names", tuple(range(13))),)), (board.batch, ((("spot",),),))]
        for call, worths in calls:
            self.assertEqual(outcome(call, *worths), ("TooManyEdits", {}))
        for call, worths, goal in [
            (board.tie, (13, 0), ("NoSpot", {"spot": 13})), (board.cut, (10,), ("NoTie", {"index": 10})),
            (board.draw, (None,), ("NoTie", {"index": None})), (board.change, (0,), ("BadChange", {})),
            (board.batch, (0,), ("BadBatch", {})), (board.batch, ((("cut", 10),),), ("Rejected", {"index": 0})),
            (board.batch, ((("spot",), ("spot",)),), ("Rejected", {"index": 1})),
            (board.redo, (), ("NothingToRedo", {})),
        ]:
            self.assertEqual(outcome(call, *worths), goal)
        self.assertEqual(full_state(board), before)
        self.assertEqual([board.undo(), board.spot(), board.version], [39, 40, 40])
        self.assertEqual([outcome(board.spot), outcome(board.redo)],
                         [("TooMany", {"limit": 14}), ("NothingToRedo", {})])
        self.assertEqual([board.undo(), board.redo(), board.undo(), board.undo(), board.spot(), board.batch(())],
                         [39, 40, 39, 38, 39, 40])
        self.assertEqual(outcome(board.batch, ()), ("TooManyEdits", {}))

    def test_most_of_all_ahead_of_too_many_edits(self):
        board = Board((14, ((0, 1),) * 28))
        for _ in range(40):
            board.batch(())
        self.assertEqual([outcome(board.spot), outcome(board.tie, 0, 1)],
                         [("TooMany", {"limit": 14}), ("TooMany", {"limit": 28})])
        self.assertEqual(outcome(board.cut, 0), ("TooManyEdits", {}))


class BatchTest(unittest.TestCase):
    def test_batches_against_edits_one_by_one(self):
        rng = random.Random(420)
        done, rejected = 0, 0
        for web in start_webs(420, 60):
            board = Board(web)
            for _ in range(6):
                edits, now = [], board.web
                for _ in range(rng.choice([0, 1, 2, 5, 12])):
                    edits.append(drawn_edit(rng, now, 0.03))
                    further = edited(now, *edits[-1])
                    now = now if is_error(further) else further
                before, steps = full_state(board), board.copy()
                goal = batched(board.web, tuple(edits))
                told = outcome(board.batch, tuple(edits))
                if is_error(goal):
                    self.assertEqual(told, goal)
                    self.assertEqual(full_state(board), before)
                    rejected += 1
                    continue
                done += 1
                for edit in edits:
                    getattr(steps, edit[0])(*edit[1:])
                self.assertEqual(told, steps.version - len(edits) + 1)
                self.assertEqual((board.web, board.laying), (steps.web, steps.laying))
                self.assertEqual(board.web, goal)
                self.assertEqual(board.news(), (how_many(before[0][1]), how_many(goal)))
                board.undo()
                self.assertEqual((board.web, board.laying), before[0][1:3])
                board.redo()
                self.assertEqual((board.web, board.laying), (steps.web, steps.laying))
        self.assertTrue(done > 100 and rejected > 10)

    def test_sizes(self):
        board = Board(P)
        self.assertEqual([board.batch(()), board.web, board.version], [1, P, 1])
        self.assertEqual(board.batch((("tie", 0, 1),) * 12), 2)
        self.assertEqual(len(board), 17)
        for many in (13, 14, 3000):
            self.assertEqual(outcome(board.batch, (("tie", 0, 1),) * many), ("BadBatch", {}))
        self.assertEqual(outcome(board.batch, (("tie", 0, 1),) * 12), ("Rejected", {"index": 11}))
        self.assertEqual((board.version, len(board)), (2, 17))
        self.assertEqual([board.undo(), board.web, board.undo(), board.web], [1, P, 0, P])

    def test_what_is_no_batch(self):
        board = Board(W)
        board.spot()
        board.undo()
        before = full_state(board)
        bad = [[], [("spot",)], (["spot"],), ("spot",), (("Spot",),), (("spot", 0),), (("tie", 0),),
               (("tie", 0, 1, 2),), (("cut",),), (("cut", 0, 1),), (("draw",),), (("draw", 0, 0),), (("change",),),
               (("change", (), ()),),
               (("batch", ()),), (("undo",),), (("redo",),), (("copy",),), ((),), ((None,),), ((0, 1),), (([],),),
               (({},),), ((("spot",),),), (("spot",), ()), (("spot",), ["cut", 0]), (("spot",), None), "spot", "",
               ("tie", 0, 1), (("tie", 0, 1), "cut"), ({"spot": 1},), {("spot",): 0}, (("spot",), ("at", 0)),
               (("cut", 99), ("spot", 1)), ((True,),), (("",),), (("web",),), (("__init__", 0),), (("_state",),)]
        for value in bad + [each for each in WRONG if each != ()]:
            self.assertEqual(outcome(board.batch, value), ("BadBatch", {}), value)
        self.assertEqual(full_state(board), before)

    def test_what_is_rejected(self):
        board = Board(W)
        before = full_state(board)
        for edits, index in [((("cut", 6),), 0), ((("spot",), ("tie", 4, 5)), 1), ((("cut", 0),) * 7, 6),
                             ((("spot",),) * 11, 10), ((("cut", 0), ("change", 0), ("spot",)), 1),
                             ((("tie", [], {}),), 0), ((("spot",), ("draw", True)), 1), ((("cut", None),), 0)]:
            self.assertEqual(outcome(board.batch, edits), ("Rejected", {"index": index}))
        self.assertEqual(full_state(board), before)
        self.assertEqual(board.batch((("spot",), ("tie", 4, 0), ("cut", 6), ("draw", 0))), 1)

    def test_laying_behind_a_batch(self):
        """What lies between may have no flat laying: behind it there is any one."""
        board = Board((5, F[1][:-1]))
        old = board.laying
        self.assertEqual(board.batch((("tie", 3, 4), ("cut", 9))), 1)
        self.assertEqual(board.web, (5, F[1][:-1]))
        self.assertTrue(is_laying_of(board.web, board.laying))
        self.assertEqual(board.batch((("spot",), ("tie", 0, 5), ("cut", 9))), 2)
        self.assertTrue(is_laying_of(board.web, board.laying))
        board = Board(P)
        old = board.laying
        board.batch((("spot",), ("tie", 0, 4), ("cut", 5)))
        self.assertEqual(board.laying, (*old, ()))


class TakingBackTest(unittest.TestCase):
    def test_ends_of_undo_and_redo(self):
        board = Board(P)
        for _ in range(2):
            self.assertRaises(NothingToUndo, board.undo)
            self.assertRaises(NothingToRedo, board.redo)
        self.assertEqual([board.spot(), board.cut(0), board.undo(), board.undo()], [1, 2, 1, 0])
        self.assertRaises(NothingToUndo, board.undo)
        self.assertEqual([board.web, board.redo(), board.redo(), board.web], [P, 1, 2, (5, P[1][1:])])
        self.assertRaises(NothingToRedo, board.redo)
        self.assertEqual([board.undo(), board.version], [1, 1])

    def test_edit_behind_undo_forgets(self):
        board = Board(P)
        board.spot()
        board.spot()
        board.undo()
        board.undo()
        self.assertEqual([board.tie(0, 3), board.web], [1, (4, (*P[1], (0, 3)))])
        self.assertRaises(NothingToRedo, board.redo)
        board.undo()
        self.assertEqual([board.redo(), len(board)], [1, 6])
        board.undo()
        # What can't be done forgets nothing.
        for call, worths in ((board.tie, (9, 9)), (board.cut, (99,)), (board.batch, (0,)), (board.change, ((),))):
            self.assertRaises(WebError, call, *worths)
        self.assertEqual([board.redo(), len(board)], [1, 6])
        board.undo()
        self.assertEqual(board.batch(()), 1)
        self.assertRaises(NothingToRedo, board.redo)

    def test_nothing_is_left_behind(self):
        rng = random.Random(430)
        for web in start_webs(430, 30):
            board = Board(web)
            before = board_state(board)
            rows = []
            for _ in range(8):
                edit = drawn_edit(rng, board.web, 0)
                if not isinstance(outcome(getattr(board, edit[0]), *edit[1:]), tuple):
                    rows.append((board.web, board.laying, board.version))
            many = board.version
            for _ in range(many):
                board.undo()
            after = board_state(board)
            self.assertEqual(after[:4] + after[5:], before[:4] + before[5:])
            for _ in range(many):
                board.redo()
            self.assertEqual((board.web, board.laying, board.version), (rows or [before[1:4]])[-1])

    def test_versions(self):
        board = Board(P)
        board.spot()
        board.cut(0)
        webs = [P, (5, P[1]), (5, P[1][1:])]
        self.assertEqual([board.at(version) for version in range(3)], webs)
        for version in WRONG + [3, -1, True, False, None, "1", (1,), 10 ** 399]:
            if type(version) is int and 0 <= version < 3:
                continue
            with self.assertRaises(NoVersion) as caught:
                board.at(version)
            self.assertIs(caught.exception.given, version)
        board.undo()
        self.assertEqual([board.at(0), board.at(1)], webs[:2])
        self.assertRaises(NoVersion, board.at, 2)
        board.redo()
        self.assertEqual(board.at(2), webs[2])

    def test_news(self):
        board = Board((3, ((0, 1), (0, 1), (0, 1))))
        self.assertEqual(board.news(), (2, 2))
        board.tie(0, 1)
        self.assertEqual([board.news(), board.news()], [(2, 6), (2, 6)])
        board.cut(0)
        self.assertEqual(board.news(), (6, 2))
        board.undo()
        self.assertEqual(board.news(), (2, 6))
        board.undo()
        self.assertEqual(board.news(), (6, 2))
        self.assertRaises(NothingToUndo, board.undo)
        self.assertRaises(NoTie, board.cut, 3)
        self.assertEqual(board.news(), (6, 2))
        board.redo()
        self.assertEqual(board.news(), (2, 6))
        board.batch(())
        self.assertEqual(board.news(), (6, 6))
        board.batch((("tie", 0, 1), ("cut", 0), ("cut", 0)))
        self.assertEqual(board.news(), (6, 2))
        board = Board((5, F[1][:-1]))
        board.tie(3, 4)
        self.assertEqual(board.news(), (2, 0))

    def test_copies(self):
        rng = random.Random(431)
        for web in start_webs(431, 25):
            for kind in (Board, FlatBoard):
                if kind is FlatBoard and lay(web) is None:
                    continue
                board = kind(web)
                for _ in range(6):
                    edit = drawn_edit(rng, board.web)
                    outcome(getattr(board, edit[0]), *edit[1:])
                    outcome(rng.choice([board.undo, board.redo, board.undo]))
                before = full_state(board)
                other = board.copy()
                self.assertIs(type(other), kind)
                self.assertEqual(full_state(other), before)
                self.assertTrue(other == board and other is not board)
                outcome(other.cut, 0)
                outcome(other.spot)
                outcome(other.undo)
                self.assertEqual(full_state(board), before)
                kept = full_state(other)
                outcome(board.draw, 0)
                outcome(board.redo)
                self.assertEqual(full_state(other), kept)


class AttemptTest(unittest.TestCase):
    def test_work_that_returns(self):
        board = Board(P)
        seen = []

        def work(each):
            seen.append(each is board)
            each.spot()
            each.tie(0, 4)
            return [each.version, "done"]

        self.assertEqual(board.attempt(work), [2, "done"])
        self.assertEqual((seen, board.version, board.web), ([True], 2, (5, (*P[1], (0, 4)))))
        self.assertIsNone(board.attempt(lambda each: None))
        self.assertEqual([board.undo(), board.undo()], [1, 0])

    def test_work_that_fails(self):
        for fails, kept in ((lambda each: each.cut(99), NoTie), (lambda each: Board(0), BadWeb),
                            (lambda each: blocks_of_nothing(), Rejected), (lambda each: each.undo(), NothingToUndo)):
            board = Board(P)
            board.cut(1)
            board.tie(3, 3)
            board.undo()
            board.spot()
            board.undo()
            before = full_state(board)

            def work(each):
                each.undo()
                each.tie(0, 3)
                each.batch((("spot",), ("spot",)))
                each.undo()
                each.undo()
                fails(each)

            with self.assertRaises(kept):
                board.attempt(work)
            self.assertEqual(full_state(board), before)
            self.assertEqual([board.redo(), board.web[0]], [2, 5])

    def test_the_error_goes_on_as_it_is(self):
        board = Board(P)
        error = TooMany(7)

        def work(each):
            each.spot()
            raise error

        with self.assertRaises(TooMany) as caught:
            board.attempt(work)
        self.assertIs(caught.exception, error)
        self.assertEqual((board.web, board.version), (P, 0))

    def test_other_errors_leave_what_was_done(self):
        for made in (ValueError, KeyError, ZeroDivisionError, RuntimeError, KeyboardInterrupt):
            board = Board(P)

            def work(each):
                each.spot()
                each.spot()
                each.undo()
                raise made("no")

            with self.assertRaises(made):
                board.attempt(work)
            self.assertEqual((board.web, board.version, board.redo()), ((5, P[1]), 1, 2))

    def test_work_that_attempts(self):
        board = Board(P)

        def inner(each):
            each.tie(0, 0)
            each.cut(99)

        def outer(each):
            each.spot()
            try:
                each.attempt(inner)
            except NoTie:
                each.tie(4, 0)
            return each.attempt(lambda one: one.version)

        self.assertEqual(board.attempt(outer), 2)
        self.assertEqual(board.web, (5, (*P[1], (0, 4))))

        def failing(each):
            each.undo()
            each.attempt(lambda one: one.spot())
            each.attempt(inner)

        before = full_state(board)
        self.assertRaises(NoTie, board.attempt, failing)
        self.assertEqual(full_state(board), before)

        def passing_by(each):
            each.spot()
            try:
                each.attempt(failing_otherwise)
            except ZeroDivisionError:
                return each.web[0]

        def failing_otherwise(each):
            each.spot()
            return 1 // 0

        self.assertEqual(board.attempt(passing_by), 7)

    def test_attempts_are_no_edits(self):
        board = Board((5, ()))
        for _ in range(40):
            board.batch(())
        self.assertEqual(board.attempt(lambda each: each.undo()), 39)
        self.assertEqual(board.attempt(lambda each: each.redo()), 40)
        self.assertRaises(TooManyEdits, board.attempt, lambda each: each.spot())
        self.assertEqual(board.version, 40)


def blocks_of_nothing():
    return Board(W).batch((("cut", 6),))


if __name__ == "__main__":
    unittest.main()
