"""[N5]: shells, which answer lines."""

import random
import unittest

from flatbonds.blocks import blocks, is_block
from flatbonds.boards import Board
from flatbonds.errors import WebError
from flatbonds.layings import how_many, lay
from flatbonds.shells import Shell
from flatbonds.texts import web_text
from flatbonds.trees import tree
from samples import F, H, LINE, LOOP, ODD_VALUES, P, R, W

WORDS = {"spot": 0, "tie": 2, "cut": 1, "draw": 1, "undo": 0, "redo": 0, "web": 0, "count": 0, "flat": 0, "parts": 0,
         "kinds": 0}


def shell_with(web):
    shell = Shell()
    assert shell.say(f"new {web[0]}") == "ok"
    for a, b in web[1]:
        assert shell.say(f"tie {b} {a}").startswith("version ")
    return shell


def asked(board):
    """The answers that the web of the board must get."""
    web = board.web
    kinds = " ".join(kind for kind, _ in tree(web)) if is_block(web) else "no NotBlock"
    return {"web": " / ".join(web_text(web).split("\n")), "count": str(how_many(web)),
            "flat": "no" if lay(web) is None else "yes", "parts": str(len(blocks(web))), "kinds": kinds}


class ShellTest(unittest.TestCase):
    def test_ahead_of_the_first_new(self):
        shell = Shell()
        for _ in range(2):
            for word, many in WORDS.items():
                for line in (word, word + " 0" * many, word + " x", word + " 0 0 0", word + " 00",
                             word + " " + "9" * 40, word + " " + "9" * 2990, word + " new 3"):
                    self.assertEqual(shell.say(line), "no board", line)
                for line in (word + " ", " " + word, word + "  0", word.upper(), word + "\n", word + "\n0", "x" + word):
                    self.assertEqual(shell.say(line), "what", line)
            for line in ("", " ", "  ", "new", "new 0", "new 15", "new 03", "new -1", "new 3 4", "new  3", "new 3 ",
                         "new x", "New 3", "new 3\n", "new " + "1" * 31, "new " + "1" * 32, "hello", "0", "3 new",
                         "new\n3", "new +3", "new 1_0", "new 3.0"):
                self.assertEqual(shell.say(line), "what", line)
        self.assertEqual([shell.say("new 3"), shell.say("web")], ["ok", "3"])

    def test_what_is_no_string(self):
        for shell in (Shell(), shell_with(P)):
            for value in ODD_VALUES + [b"count", ["count"], ("count",), {"count": 0}, 3, True, None, [["web"]]]:
                if value == "web":
                    continue
                self.assertEqual(shell.say(value), "what")
            for value in ("x" * 3000, "\n" * 3000, " " * 3000, "a " * 1500, ("a " * 1500)[:-1]):
                self.assertEqual(shell.say(value), "what")

    def test_lines_that_are_none(self):
        shell = shell_with(P)
        for line in ("", " ", "count ", " count", "count 0", "counts", "Count", "count\n", "tie", "tie 0", "tie 0 1 2",
                     "tie  0 1", "tie 0  1", "tie 0 1 ", " tie 0 1", "tie 00 1", "tie 0 01", "tie +0 1", "tie -1 0",
                     "tie 0 a", "tie 0 1\n", "tie\n0 1", "tie 0,1", "tie 0 1_0", "tie 0 " + "1" * 32,
                     "tie " + "1" * 32 + " 0", "tie 0 " + "9" * 2990,
                     "cut", "cut 0 0", "cut 00", "cut -0", "cut " + "9" * 32, "draw", "draw a", "draw 0 1", "draw 0x0",
                     "spot 0", "undo 0", "undo 1", "redo 0", "web 0", "flat 0", "parts 1", "kinds 2", "new", "new 0",
                     "new 15", "new 3 3", "new 03", "new " + "0" * 31, "new a", "batch", "change", "copy", "at 0",
                     "news", "no", "board", "what", "0", "spot spot", "spot\n", "tie \u0661 0", "cut \u00b2"):
            self.assertEqual(shell.say(line), "what", line)
        self.assertEqual([shell.say("web"), shell.say("undo")], [web_text(P).replace("\n", " / "), "version 4"])

    def test_new(self):
        shell = Shell()
        for spots in range(1, 15):
            lines = (f"new {spots}", "web", "count", "flat", "parts", "kinds", "undo")
            self.assertEqual([shell.say(line) for line in lines],
                             ["ok", str(spots), "1", "yes", "0", "no NotBlock", "no NothingToUndo"])
        self.assertEqual([shell.say("new 2"), shell.say("tie 0 1"), shell.say("new 15"), shell.say("web"),
                          shell.say("new 2"), shell.say("web"), shell.say("redo"), shell.say("tie 1 1")],
                         ["ok", "version 1", "what", "2 / 0 1", "ok", "2", "no NothingToRedo", "version 1"])
        other = Shell()
        self.assertEqual(other.say("web"), "no board")

    def test_answers_by_words(self):
        for web, flat, count, parts, kinds in (
                (W, "yes", "2", "1", "firm"), (H, "yes", "2", "1", "ring ring bundle ring"),
                (P, "yes", "12", "4", None), (R, "yes", "2", "1", "ring ring bundle"), (F, "no", "0", "1", "firm"),
                (LOOP, "yes", "1", "1", "line"), (LINE, "yes", "1", "1", "line"),
                ((3, ((0, 1),)), "yes", "1", "1", None)):
            shell = shell_with(web)
            self.assertEqual([shell.say(line) for line in ("flat", "count", "parts", "kinds")],
                             [flat, count, parts, "no NotBlock" if kinds is None else kinds])
            self.assertEqual(shell.say("web"), web_text(web).replace("\n", " / "))

    def test_errors_of_the_board(self):
        shell = shell_with(P)
        nines = "9" * 31
        for line, answer in [("tie 4 0", "no NoSpot"), ("tie 0 4", "no NoSpot"), (f"tie {nines} 0", "no NoSpot"),
                             (f"tie 0 {nines}", "no NoSpot"), ("cut 5", "no NoTie"), (f"cut {nines}", "no NoTie"),
                             ("draw 5", "no NoTie"), (f"draw {nines}", "no NoTie"), ("redo", "no NothingToRedo"),
                             ("undo", "version 4"), ("redo", "version 5"), ("redo", "no NothingToRedo"),
                             ("kinds", "no NotBlock")]:
            self.assertEqual(shell.say(line), answer, line)
        shell = Shell()
        self.assertEqual([shell.say("new 14"), shell.say("spot")], ["ok", "no TooMany"])
        for version in range(1, 29):
            self.assertEqual(shell.say("tie 0 1"), f"version {version}")
        self.assertEqual([shell.say("tie 0 1"), shell.say("tie 0 14"), shell.say("draw 0"), shell.say("spot")],
                         ["no TooMany", "no NoSpot", "version 29", "version 30"])
        for version in range(31, 41):
            self.assertEqual(shell.say("cut 0"), f"version {version}")
        self.assertEqual([shell.say("cut 0"), shell.say("tie 0 0"), shell.say("cut 99"), shell.say("draw 0")],
                         ["no TooManyEdits", "no TooManyEdits", "no NoTie", "no TooManyEdits"])
        for version in range(39, -1, -1):
            self.assertEqual(shell.say("undo"), f"version {version}")
        self.assertEqual([shell.say("undo"), shell.say("web")], ["no NothingToUndo", "14"])

    def test_against_a_board(self):
        rng = random.Random(600)
        for spots in (1, 2, 4, 6, 9, 14):
            shell, board = Shell(), Board((spots, ()))
            self.assertEqual(shell.say(f"new {spots}"), "ok")
            for _ in range(150):
                word = rng.choice(["tie"] * 6 + ["spot", "cut", "draw", "draw", "undo", "redo"])
                worths = [rng.randrange(board.web[0] + (rng.random() < 0.1)) for _ in range(2)] if word == "tie" else []
                if word in ("cut", "draw"):
                    worths = [rng.randrange(len(board) + 1)]
                try:
                    goal = f"version {getattr(board, word)(*worths)}"
                except WebError as error:
                    goal = "no " + type(error).__name__
                self.assertEqual(shell.say(" ".join([word, *map(str, worths)])), goal)
                for question, answer in asked(board).items():
                    self.assertEqual(shell.say(question), answer)

    def test_by_name_and_kinds(self):
        shell = Shell()
        self.assertEqual(shell.say(line="new 2"), "ok")
        self.assertIs(type(shell.say(None)), str)
        self.assertIn("say", vars(Shell))
        self.assertEqual(Shell.__module__, "flatbonds.shells")


if __name__ == "__main__":
    unittest.main()
