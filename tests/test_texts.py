"""[A7]: the texts of webs."""

import unittest

from flatbonds.errors import BadText
from flatbonds.texts import parse_web, web_text
from samples import BARE, LOOP, ODD_VALUES, W, bundle, far_webs, small_webs


class TextsTest(unittest.TestCase):
    def bad_line(self, value):
        with self.assertRaises(BadText) as caught:
            parse_web(value)
        return caught.exception.line

    def test_text(self):
        self.assertEqual(web_text(BARE), "1")
        self.assertEqual(web_text((12, ())), "12")
        self.assertEqual(web_text(LOOP), "1\n0 0")
        self.assertEqual(web_text(W), "4\n0 1\n0 2\n0 3\n1 2\n1 3\n2 3")
        self.assertEqual(web_text((14, ((9, 13), (10, 10)))), "14\n9 13\n10 10")

    def test_text_of_far_webs(self):
        for web in far_webs().values():
            lines = web_text(web).split("\n")
            self.assertEqual(lines[0], str(web[0]))
            self.assertEqual(tuple(tuple(int(word) for word in line.split(" ")) for line in lines[1:]), web[1])

    def test_there_and_back(self):
        for web in small_webs(8, 60) + [(14, ((0, 13),) * 28), (14, tuple((a, 13) for a in range(14)) * 2)]:
            self.assertEqual(parse_web(web_text(web)), web)

    def test_bounds(self):
        self.assertEqual(parse_web("14" + "\n0 13" * 28), (14, ((0, 13),) * 28))
        self.assertEqual(self.bad_line("14" + "\n0 13" * 29), 29)
        self.assertEqual(self.bad_line("14" + "\n0 13" * 300), 29)
        self.assertEqual(self.bad_line(web_text(bundle(60))), 29)
        self.assertEqual(self.bad_line("15" + "\n0 13" * 28), 0)
        self.assertEqual(self.bad_line("60"), 0)
        self.assertEqual(self.bad_line("0"), 0)

    def test_a_bad_line_ahead_of_too_many(self):
        self.assertEqual(self.bad_line("14" + "\n0 13" * 10 + "\n0 14" + "\n0 13" * 40), 11)
        self.assertEqual(self.bad_line("14" + "\n0 13" * 28 + "\nx"), 29)
        self.assertEqual(self.bad_line("14" + "\n0 13" * 28 + "\n"), 29)
        self.assertEqual(self.bad_line("x" + "\n0 13" * 40), 0)

    def test_first_line(self):
        for line in ["", " ", "1 ", " 1", "01", "00", "+1", "-1", "1.0", "1 0", "x", "0x1", "1_0", "1,", "9" * 3000,
                     "0" * 3000, "None", "True", "1\t", "1\r", "\u0661", "\u00b2"]:
            self.assertEqual(self.bad_line(line), 0, line)
            self.assertEqual(self.bad_line(line + "\nx"), 0, line)

    def test_numbers_of_very_many_figures(self):
        for many in (3, 5, 3000, 5000, 100000):
            self.assertEqual(self.bad_line("1" * many), 0)
            self.assertEqual(self.bad_line("3\n0 " + "1" * many), 1)

    def test_further_lines(self):
        for line in ["", " ", "0", "0 ", " 0", "0 1 ", " 0 1", "0  1", "0 1 1", "1 0", "0 3", "3 3", "-1 0", "00 1", "0 01",
                     "+0 1", "0,1", "0\t1", "a b", "0 x", "0 " + "1" * 2990, "0 -0", "\u0660 1", "0 1\r"]:
            self.assertEqual(self.bad_line("3\n" + line), 1, line)
            self.assertEqual(self.bad_line("3\n0 1\n2 2\n" + line + "\nx"), 3, line)

    def test_a_line_feed_at_the_end(self):
        self.assertEqual(self.bad_line("3\n"), 1)
        self.assertEqual(self.bad_line("3\n0 1\n"), 2)
        self.assertEqual(self.bad_line("\n3"), 0)
        self.assertEqual(self.bad_line("3\n\n0 1"), 1)

    def test_what_is_no_string(self):
        for value in ODD_VALUES:
            if not isinstance(value, str):
                self.assertIsNone(self.bad_line(value))
        self.assertIsNone(self.bad_line(W))
        self.assertIsNone(self.bad_line(["3"]))


if __name__ == "__main__":
    unittest.main()
