"""The lines of a web, written and read."""

import unittest

from helping import NAMES, Alike, full_of_points, full_of_ties, refused, told, web_with
from reachbook.errors import BadLine
from reachbook.webs import Web, web_lines, web_of

MOST_TEXT = "1" + "0" * 60
BEYOND_TEXT = "1" + "0" * 59 + "1"

LINES = [
    "point c", "point a", "point abcdefghijkl",
    "tie 2 c a 0", "way 3 a c 7", "way 5 abcdefghijkl a 1", "tie 9 c a " + MOST_TEXT,
    "given 12",
]


def without_last_tie():
    web = web_with("ab", [("a", "b", 1), ("b", "a", 2, True), ("a", "b")])
    web.drop_tie(3)
    web.drop_tie(1)
    return web


class WritingTest(unittest.TestCase):

    def test_empty(self):
        self.assertEqual(web_lines(Web()), ["given 0"])

    def test_points_alone(self):
        self.assertEqual(web_lines(web_with("ba")), ["point b", "point a", "given 0"])

    def test_plain_and_oneway_ties_by_rising_numbers_of_both(self):
        web = web_with("ba", [
            ("a", "b", 5), ("b", "a", 6, True), ("b", "a"), ("a", "b", 10 ** 60, True)])
        self.assertEqual(web_lines(web), [
            "point b", "point a", "tie 1 a b 5", "way 2 b a 6", "tie 3 b a 0",
            "way 4 a b " + MOST_TEXT, "given 4"])

    def test_rising_behind_all_changes(self):
        web = web_with("abc", [("a", "b", 5), ("b", "c", 6, True), ("a", "c")])
        web.set_load(1, 8)
        web.rename("a", "x")
        web.part("b", "y", [1])
        web.join("c", "b")
        web.put_tie("x", "c", 3)
        self.assertEqual(web_lines(web), [
            "point x", "point c", "point y", "tie 1 x y 8", "tie 3 x c 0", "tie 4 x c 3",
            "given 4"])

    def test_given_behind_dropped_ties(self):
        self.assertEqual(
            web_lines(without_last_tie()), ["point a", "point b", "way 2 b a 2", "given 3"])

    def test_told_lines_are_the_askers_own(self):
        web = web_with("a")
        web_lines(web).clear()
        self.assertEqual(web_lines(web), ["point a", "given 0"])

    def test_the_web_stays_as_it_was(self):
        web = without_last_tie()
        ahead = told(web)
        web_lines(web)
        self.assertEqual(told(web), ahead)


class ReadingTest(unittest.TestCase):

    def test_written_and_read_again(self):
        for web in [Web(), web_with("ba"), without_last_tie(), full_of_points(),
                    full_of_ties(), web_of(LINES)]:
            again = web_of(web_lines(web))
            self.assertIs(type(again), Web)
            self.assertEqual(told(again), told(web))

    def test_read_and_written_again(self):
        self.assertEqual(web_lines(web_of(LINES)), LINES)

    def test_what_is_read(self):
        self.assertEqual(told(web_of(LINES)), (
            ["c", "a", "abcdefghijkl"],
            [(2, "c", "a", 0, False), (3, "a", "c", 7, True),
             (5, "abcdefghijkl", "a", 1, True), (9, "c", "a", 10 ** 60, False)],
            12))

    def test_numbers_go_on_from_given(self):
        self.assertEqual(web_of(LINES).put_tie("a", "c"), 13)
        web = web_of(web_lines(without_last_tie()))
        self.assertEqual(web.given(), 3)
        self.assertEqual(web.put_tie("a", "b"), 4)
        self.assertEqual(web_of(["point a", "point b", "given 7"]).put_tie("a", "b"), 8)

    def test_given_is_the_last_tie(self):
        web = web_of(["point a", "point b", "tie 4 a b 0", "given 4"])
        self.assertEqual(web.given(), 4)

    def test_greatest_numbers(self):
        lines = ["point a", "point b", f"tie {MOST_TEXT} a b {MOST_TEXT}", "given " + MOST_TEXT]
        web = web_of(lines)
        self.assertEqual(told(web), (["a", "b"], [(10 ** 60, "a", "b", 10 ** 60, False)], 10 ** 60))
        self.assertEqual(web_lines(web), lines)
        self.assertEqual(web_of(["given " + MOST_TEXT]).given(), 10 ** 60)

    def test_the_list_is_neither_changed_nor_kept(self):
        lines = list(LINES)
        web = web_of(lines)
        self.assertEqual(lines, LINES)
        ahead = told(web)
        lines.clear()
        self.assertEqual(told(web), ahead)

    def test_each_reading_is_a_web_of_its_own(self):
        web = web_of(LINES)
        web.put_point("z")
        self.assertEqual(web_lines(web_of(LINES)), LINES)


class BadLinesTest(unittest.TestCase):

    def bad(self, place, lines):
        with self.subTest(lines=lines):
            ahead = list(lines)
            error = refused(self, BadLine, web_of, lines)
            self.assertEqual(error.place, place)
            self.assertIs(type(error.place), int)
            self.assertEqual(lines, ahead)

    def bad_first(self, line):
        """A line that can't stand at any place, nor hides one behind it."""
        self.bad(0, [line, "given 0"])
        self.bad(0, [line])
        self.bad(2, ["point a", "point b", line, "given 9"])
        self.bad(3, ["point a", "point b", "tie 1 a b 0", line, "given 9"])
        self.bad(2, ["point a", "point b", line, "point A"])

    def test_what_is_no_list(self):
        for thing in [None, True, 0, "given 0", b"given 0", ("given 0",), {"given 0": 1},
                      {"given 0"}, Alike()]:
            with self.subTest(thing=thing):
                self.assertEqual(refused(self, BadLine, web_of, thing).place, 0)

    def test_things_that_are_no_texts(self):
        for thing in [None, True, 0, b"point c", ["point c"], ("point", "c"), {}, Alike()]:
            self.bad_first(thing)

    def test_lines_that_write_nothing(self):
        for line in [
                "", " ", "x", "Point c", "points c", "point", "point c d", "point  c",
                " point c", "point c ", "point\tc", "point c\n", "state 0", "tie", "way",
                "tie 2 a b", "tie 2 a b 0 0", "way 2 a b", "way 2 a b 0 0", "tie a b 0",
                "tie 2  a b 0", "tie 2 a b 0 ", "tie x a b 0", "tie 2 a b x", "tie 02 a b 0",
                "tie +2 a b 0", "tie 2 a b 00", "tie 2 a b 01", "tie 2 a b -1", "tie 2 a b 1.0",
                "tie -2 a b 0", "tie 2 a b 0\n", "tie 2 a b 1_0", "given", "given x", "given 09",
                "given -1", "given +9", "given 9 9", "given  9", "given 9 ", "Given 9", "given\n9",
                "given 9\n"]:
            self.bad_first(line)

    def test_points_that_the_web_refuses(self):
        self.bad_first("point A")
        self.bad_first("point abcdefghijklm")
        self.bad(1, ["point a", "point a", "given 0"])
        points = ["point " + name for name in NAMES]
        self.assertEqual(web_of(points + ["given 0"]).points(), NAMES)
        self.bad(16, points + ["point q", "given 0"])
        self.bad(16, points + ["point a", "given 0"])

    def test_ties_that_the_web_refuses(self):
        for word in ["tie", "way"]:
            self.bad_first(f"{word} 2 a x 0")
            self.bad_first(f"{word} 2 x b 0")
            self.bad_first(f"{word} 2 a a 0")
            self.bad_first(f"{word} 2 a b {BEYOND_TEXT}")
            self.bad_first(f"{word} 2 a b {'9' * 62}")

    def test_forty_ninth_tie(self):
        lines = ["point a", "point b"]
        lines.extend(f"tie {number} a b 0" for number in range(2, 50))
        self.assertEqual(len(web_of(lines + ["given 50"]).ties()), 48)
        self.bad(50, lines + ["tie 50 a b 0", "given 50"])

    def test_a_point_behind_a_tie(self):
        self.bad(3, ["point a", "point b", "tie 1 a b 0", "point c", "given 1"])
        self.bad(3, ["point a", "point b", "way 7 a b 0", "point c", "given 7"])

    def test_a_point_of_a_tie_that_is_put_too_late(self):
        self.bad(1, ["point a", "tie 1 a b 0", "point b", "given 1"])

    def test_numbers_of_ties(self):
        for word in ["tie", "way"]:
            self.bad_first(f"{word} 0 a b 0")
            self.bad_first(f"{word} {BEYOND_TEXT} a b 0")
            self.bad_first(f"{word} {'9' * 62} a b 0")

    def test_numbers_that_do_not_rise(self):
        ahead = ["point a", "point b", "tie 3 a b 0"]
        for number in [1, 2, 3]:
            for word in ["tie", "way"]:
                self.bad(3, ahead + [f"{word} {number} a b 0", "given 9"])
        self.assertEqual(web_of(ahead + ["tie 4 a b 0", "given 4"]).given(), 4)

    def test_given_too_small(self):
        self.bad(3, ["point a", "point b", "tie 3 a b 0", "given 2"])
        self.bad(3, ["point a", "point b", "way 3 a b 0", "given 0"])
        self.bad(3, ["point a", "point b", "way 3 a b 0", "given 0", "given 3"])

    def test_given_too_great(self):
        self.bad_first("given " + BEYOND_TEXT)
        self.bad_first("given " + "9" * 61)
        self.bad_first("given " + "9" * 62)

    def test_anything_behind_given(self):
        for behind in ["given 9", "point c", "tie 9 a b 0", "", "x", None, 0]:
            self.bad(3, ["point a", "point b", "given 0", behind])
            self.bad(4, ["point a", "point b", "tie 1 a b 0", "given 8", behind])
            self.bad(1, ["given 0", behind])
            self.bad(1, ["given 0", behind, behind])

    def test_given_lacks(self):
        self.bad(0, [])
        self.bad(1, ["point a"])
        self.bad(2, ["point a", "point b"])
        self.bad(4, ["point a", "point b", "tie 1 a b 0", "way 2 a b 0"])

    def test_the_first_bad_line_is_told(self):
        self.bad(1, ["point a", "x", "y", "given 0"])
        self.bad(1, ["point a", "point a", "tie 1 a a 0"])
        self.bad(0, [None, None])


if __name__ == "__main__":
    unittest.main()
