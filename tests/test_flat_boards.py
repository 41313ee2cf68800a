"""[N4]: boards whose webs can always be laid flat."""

import random
import unittest

from boarding import batched, board_state, drawn_edit, edited, full_state, is_error, is_laying_of, outcome
from flatbonds.boards import Board, FlatBoard
from flatbonds.errors import BadWeb, Crossed, NothingToRedo, NothingToUndo, NoTie, WebError
from flatbonds.layings import is_flat, lay
from flatbonds.papers import paper_holds
from samples import BARE, F, H, LOOP, ODD_VALUES, P, T, W, flat_web, full, small_webs, with_spots

# All ties of five spots but one, and all of three and three but one: one more is too many.
ALMOST_F = (5, F[1][:-1])
ALMOST_T = (6, T[1][:-1])


class FlatBoardTest(unittest.TestCase):
    def check_crossed(self, web, call, *worths):
        """The call raises Crossed with a paper in this web."""
        with self.assertRaises(Crossed) as caught:
            call(*worths)
        paper = caught.exception.paper
        self.assertTrue(paper_holds(web, paper))
        self.assertIn(paper[0], ("five", "six"))

    def test_at_first(self):
        for web in (W, P, H, BARE, LOOP, ALMOST_F, ALMOST_T, (14, ())):
            board = FlatBoard(web)
            self.assertIsInstance(board, Board)
            self.assertEqual((board.web, board.version, board.laying), (web, 0, Board(web).laying))
        for web in (F, T, full(6), full(7), with_spots(F, 9)):
            self.check_crossed(web, FlatBoard, web)
        for value in ODD_VALUES + [(15, F[1]), (5, list(F[1])), (4, F[1]), (5, F[1] * 3)]:
            self.assertRaises(BadWeb, FlatBoard, value)

    def test_against_boards_of_the_same_edits(self):
        rng = random.Random(500)
        crossed, done = 0, 0
        webs = [web for web in small_webs(500, 60, 8, 12) + [ALMOST_F, ALMOST_T] * 8 if lay(web) is not None]
        webs += [flat_web(rng, rng.randint(5, 10), rng.randint(12, 24)) for _ in range(30)]
        for web in webs:
            board, other = FlatBoard(web), Board(web)
            for _ in range(20):
                if rng.random() < 0.25:
                    name = rng.choice(["undo", "redo"])
                    self.assertEqual(outcome(getattr(board, name)), outcome(getattr(other, name)))
                    continue
                edit = drawn_edit(rng, board.web)
                if rng.random() < 0.2:
                    edit = ("batch", tuple(drawn_edit(rng, board.web, 0.02) for _ in range(rng.randint(0, 4))))
                goal = batched(board.web, edit[1]) if edit[0] == "batch" else edited(board.web, *edit)
                call = getattr(board, edit[0])
                if not is_error(goal) and lay(goal) is None:
                    before = full_state(board)
                    self.check_crossed(goal, call, *edit[1:])
                    self.assertEqual(full_state(board), before)
                    crossed += 1
                else:
                    self.assertEqual(outcome(call, *edit[1:]), outcome(getattr(other, edit[0]), *edit[1:]))
                    done += 1
                self.assertTrue(board == other)
                self.assertTrue(is_flat(board.web, board.laying))
                self.assertIsNone(board.paper())
                self.assertEqual(board_state(board)[1:], board_state(other)[1:])
        self.assertTrue(crossed > 30 and done > 500)

    def test_one_edit_that_crosses(self):
        board = FlatBoard(ALMOST_F)
        board.spot()
        board.undo()
        before = full_state(board)
        self.check_crossed(F, board.tie, 3, 4)
        self.check_crossed(F, board.tie, 4, 3)
        self.assertEqual(full_state(board), before)
        self.assertEqual(outcome(board.tie, 3, 5), ("NoSpot", {"spot": 5}))
        self.assertEqual([board.tie(0, 0), board.tie(0, 1), board.cut(0)], [1, 2, 3])
        self.check_crossed((5, (*board.web[1], (3, 4))), board.tie, 3, 4)
        board = FlatBoard(ALMOST_T)
        self.check_crossed(T, board.tie, 2, 5)
        self.check_crossed(T, board.tie, 5, 2)

    def test_only_the_end_of_a_batch_counts(self):
        board = FlatBoard(ALMOST_F)
        self.assertEqual(board.batch((("tie", 3, 4), ("cut", 9))), 1)
        self.assertEqual(board.web, ALMOST_F)
        self.assertTrue(is_laying_of(ALMOST_F, board.laying))
        self.assertEqual(board.batch((("tie", 3, 4), ("spot",), ("tie", 5, 0), ("cut", 0))), 2)
        before = full_state(board)
        goal = (board.web[0], (*board.web[1], (0, 1), (0, 0)))
        self.check_crossed(goal, board.batch, (("tie", 0, 1), ("tie", 0, 0)))
        self.assertEqual(full_state(board), before)
        # Rejected goes ahead, wherever the web has no flat laying any more.
        self.assertEqual(outcome(board.batch, (("tie", 0, 1), ("cut", 99))), ("Rejected", {"index": 1}))
        self.assertEqual(outcome(board.batch, (("tie", 0, 1), ("Cut", 0))), ("BadBatch", {}))
        self.assertEqual(board.batch((("tie", 0, 1), ("draw", 0))), 3)

    def test_ahead_of_too_many_edits(self):
        board = FlatBoard(ALMOST_F)
        for _ in range(40):
            board.batch(())
        before = full_state(board)
        self.check_crossed(F, board.tie, 3, 4)
        self.check_crossed(F, board.batch, (("tie", 3, 4),))
        self.assertEqual(outcome(board.tie, 0, 4), ("TooManyEdits", {}))
        self.assertEqual(outcome(board.batch, (("tie", 3, 4), ("cut", 9))), ("TooManyEdits", {}))
        self.assertEqual(outcome(board.tie, 3, 7), ("NoSpot", {"spot": 7}))
        self.assertEqual(outcome(board.batch, (("tie", 3, 4), ("cut", 99))), ("Rejected", {"index": 1}))
        self.assertEqual(full_state(board), before)
        most = FlatBoard((5, ALMOST_F[1] * 3 + ((0, 0),)))
        self.assertEqual(len(most), 28)
        self.assertEqual(outcome(most.tie, 3, 4), ("TooMany", {"limit": 28}))

    def test_undo_and_redo(self):
        board = FlatBoard(ALMOST_F)
        board.cut(0)
        board.tie(3, 4)
        self.check_crossed((5, (*board.web[1], (0, 1))), board.tie, 0, 1)
        self.assertEqual([board.undo(), board.undo(), board.redo(), board.redo()], [1, 0, 1, 2])
        self.assertRaises(NothingToRedo, board.redo)
        board.undo()
        self.check_crossed((5, (*board.web[1], (0, 1), (3, 4))), board.batch, (("tie", 0, 1), ("tie", 3, 4)))
        self.assertEqual([board.redo(), board.web], [2, (5, (*ALMOST_F[1][1:], (3, 4)))])
        board.undo()
        board.undo()
        self.assertRaises(NothingToUndo, board.undo)

    def test_copies_and_attempts(self):
        board = FlatBoard(ALMOST_F)
        board.spot()
        other = board.copy()
        self.assertIs(type(other), FlatBoard)
        self.check_crossed((6, F[1]), other.tie, 3, 4)
        before = full_state(board)

        def work(each):
            each.cut(0)
            each.tie(3, 4)
            each.tie(1, 0)

        self.check_crossed((6, (*F[1][1:], (0, 1))), board.attempt, work)
        self.assertEqual(full_state(board), before)

        def careful(each):
            for a, b in ((3, 4), (0, 5), (1, 5)):
                try:
                    each.tie(a, b)
                except Crossed:
                    each.tie(a, a)
            return each.version

        self.assertEqual(board.attempt(careful), 4)
        self.assertEqual(board.web[1][9:], ((3, 3), (0, 5), (1, 5)))
        self.assertRaises(NoTie, board.attempt, lambda each: each.cut(99))

    def test_never_anything_else_for_wrong_values(self):
        board = FlatBoard(W)
        before = full_state(board)
        for value in ODD_VALUES:
            for name in ("tie", "cut", "draw", "change", "batch", "at"):
                worths = (value, value) if name == "tie" else (value,)
                try:
                    getattr(board, name)(*worths)
                except WebError:
                    continue
                if name not in ("at", "change"):
                    board.undo()
        self.assertEqual(before[0][1:4], full_state(board)[0][1:4])


if __name__ == "__main__":
    unittest.main()
