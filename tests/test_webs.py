"""Points and ties: what is put, told, dropped and refused."""

import unittest

from helping import (
    NAMES, Alike, fields, full_of_points, full_of_ties, refused_unchanged,
    told, web_with,
)
from reachbook import webs
from reachbook.errors import (
    BadLoad, BadName, BadTie, HasTies, NoPoint, NoTie, TooMany, Twice,
)
from reachbook.webs import MOST, Tie, Web

NO_NAMES = ["", "A", "aB", "a b", "a1", "a-b", "a\n", "abcdefghijklm", "\u00e9",
            None, True, 1, b"a", ["a"], ("a",), {"a": 1}, {"a"}, Alike()]
NO_NUMBERS = [None, True, False, "1", b"1", 1.0, [1], (1,), {1: 1}, {1}, Alike()]
NO_LOADS = [-1, MOST + 1, 10 ** 100, None, True, False, "0", b"0", 0.0, [0], (0,), {}, Alike()]
NO_TRUTHS = [None, 0, 1, "", "True", [], [True], Alike()]


class EmptyWebTest(unittest.TestCase):

    def test_without_points_and_ties(self):
        self.assertEqual(told(Web()), ([], [], 0))

    def test_most(self):
        self.assertEqual(MOST, 10 ** 60)

    def test_each_is_defined_in_its_file(self):
        for made in [webs.Web, webs.Tie, webs.web_lines, webs.web_of]:
            self.assertEqual(made.__module__, "reachbook.webs")

    def test_methods_stand_in_the_class_itself(self):
        for name in ["points", "ties", "given", "put_point", "drop_point", "rename",
                     "put_tie", "tie_of", "drop_tie", "set_load", "join", "part", "copied"]:
            self.assertIn(name, vars(Web))

    def test_tie(self):
        tie = Tie(3, "a", "b", 7, True)
        self.assertEqual(fields(tie), (3, "a", "b", 7, True))


class PointsTest(unittest.TestCase):

    def test_order_is_the_one_in_which_they_were_put(self):
        web = Web()
        for name in ["c", "a", "abcdefghijkl", "b"]:
            self.assertIsNone(web.put_point(name))
        self.assertEqual(web.points(), ["c", "a", "abcdefghijkl", "b"])

    def test_no_names(self):
        for name in NO_NAMES:
            with self.subTest(name=name):
                refused_unchanged(self, web_with("a"), BadName, "put_point", name)

    def test_twice(self):
        refused_unchanged(self, web_with("ab"), Twice, "put_point", "a")
        refused_unchanged(self, web_with("ab"), Twice, "put_point", "b")

    def test_sixteenth_and_seventeenth(self):
        web = web_with(NAMES[:15])
        web.put_point("p")
        self.assertEqual(web.points(), NAMES)
        refused_unchanged(self, web, TooMany, "put_point", "q")

    def test_the_first_refusal_that_is_due(self):
        refused_unchanged(self, full_of_points(), BadName, "put_point", "A")
        refused_unchanged(self, full_of_points(), Twice, "put_point", "a")

    def test_drop(self):
        web = web_with("abc")
        self.assertIsNone(web.drop_point("b"))
        self.assertEqual(web.points(), ["a", "c"])
        web.put_point("b")
        self.assertEqual(web.points(), ["a", "c", "b"])

    def test_drop_makes_room(self):
        web = full_of_points()
        web.drop_point("a")
        web.put_point("q")
        self.assertEqual(web.points(), NAMES[1:] + ["q"])

    def test_drop_of_no_point(self):
        for name in NO_NAMES + ["b"]:
            with self.subTest(name=name):
                error = refused_unchanged(self, web_with("a"), NoPoint, "drop_point", name)
                self.assertIs(error.name, name)

    def test_drop_where_ties_end(self):
        for is_oneway in [False, True]:
            web = web_with("abc", [("a", "b", 0, is_oneway)])
            refused_unchanged(self, web, HasTies, "drop_point", "a")
            refused_unchanged(self, web, HasTies, "drop_point", "b")
            web.drop_point("c")
            web.drop_tie(1)
            web.drop_point("a")
            web.drop_point("b")
            self.assertEqual(told(web), ([], [], 1))


class TiesTest(unittest.TestCase):

    def test_plain_and_oneway(self):
        web = web_with("ab")
        self.assertEqual(web.put_tie("a", "b"), 1)
        self.assertEqual(web.put_tie("b", "a", 7), 2)
        self.assertEqual(web.put_tie("b", "a", 8, True), 3)
        self.assertEqual(web.put_tie("a", "b", 9, False), 4)
        self.assertEqual(
            [fields(tie) for tie in web.ties()],
            [(1, "a", "b", 0, False), (2, "b", "a", 7, False),
             (3, "b", "a", 8, True), (4, "a", "b", 9, False)])
        self.assertEqual(web.given(), 4)

    def test_side_by_side(self):
        web = web_with("ab", [("a", "b", 5)] * 3)
        self.assertEqual(
            [fields(tie) for tie in web.ties()],
            [(number, "a", "b", 5, False) for number in [1, 2, 3]])

    def test_tie_of(self):
        web = web_with("abc", [("a", "b", 4), ("c", "b", 5, True)])
        self.assertEqual(fields(web.tie_of(1)), (1, "a", "b", 4, False))
        self.assertEqual(fields(web.tie_of(2)), (2, "c", "b", 5, True))

    def test_kinds_of_what_is_told(self):
        web = web_with("ab", [("a", "b")])
        for tie in [web.tie_of(1), web.ties()[0]]:
            self.assertIs(type(tie), Tie)
            self.assertIs(tie.is_oneway, False)

    def test_no_points_are_tied(self):
        for name in NO_NAMES + ["c"]:
            web = web_with("ab")
            with self.subTest(name=name):
                error = refused_unchanged(self, web, NoPoint, "put_tie", name, "a")
                self.assertIs(error.name, name)
                error = refused_unchanged(self, web, NoPoint, "put_tie", "a", name)
                self.assertIs(error.name, name)

    def test_to_itself(self):
        refused_unchanged(self, web_with("ab"), BadTie, "put_tie", "a", "a")

    def test_no_truths(self):
        for truth in NO_TRUTHS:
            with self.subTest(truth=truth):
                refused_unchanged(self, web_with("ab"), BadTie, "put_tie", "a", "b", 0, truth)

    def test_loads(self):
        for load in [0, 1, 10 ** 60 - 1, 10 ** 60]:
            web = web_with("ab")
            self.assertEqual(web.put_tie("a", "b", load), 1)
            self.assertEqual(web.tie_of(1).load, load)

    def test_no_loads(self):
        for load in NO_LOADS:
            with self.subTest(load=load):
                refused_unchanged(self, web_with("ab"), BadLoad, "put_tie", "a", "b", load)

    def test_forty_eighth_and_forty_ninth(self):
        web = web_with("abc", [("a", "b")] * 47)
        self.assertEqual(web.put_tie("b", "c", 1, True), 48)
        refused_unchanged(self, web, TooMany, "put_tie", "a", "b")
        web.drop_tie(5)
        self.assertEqual(web.put_tie("a", "c"), 49)
        refused_unchanged(self, web, TooMany, "put_tie", "a", "b")

    def test_the_first_refusal_that_is_due(self):
        web = full_of_ties()
        error = refused_unchanged(self, web, NoPoint, "put_tie", "x", "y", -1, 1)
        self.assertEqual(error.name, "x")
        error = refused_unchanged(self, web, NoPoint, "put_tie", "x", "x", 0, False)
        self.assertEqual(error.name, "x")
        error = refused_unchanged(self, web, NoPoint, "put_tie", "a", "y", -1, 1)
        self.assertEqual(error.name, "y")
        refused_unchanged(self, web, BadTie, "put_tie", "a", "a", -1, True)
        refused_unchanged(self, web, BadTie, "put_tie", "a", "b", -1, 1)
        refused_unchanged(self, web, BadLoad, "put_tie", "a", "b", -1, True)

    def test_tie_of_no_number(self):
        web = web_with("ab", [("a", "b"), ("a", "b")])
        web.drop_tie(2)
        for number in NO_NUMBERS + [0, 2, 3, -1, 10 ** 5000]:
            for deed in ["tie_of", "drop_tie"]:
                with self.subTest(number=number, deed=deed):
                    error = refused_unchanged(self, web, NoTie, deed, number)
                    self.assertIs(error.number, number)

    def test_numbers_go_on_behind_dropped_ties(self):
        web = web_with("ab", [("a", "b")] * 3)
        self.assertIsNone(web.drop_tie(3))
        self.assertIsNone(web.drop_tie(1))
        self.assertEqual([tie.number for tie in web.ties()], [2])
        self.assertEqual(web.given(), 3)
        self.assertEqual(web.put_tie("b", "a"), 4)
        web.drop_tie(4)
        web.drop_tie(2)
        self.assertEqual(web.given(), 4)
        self.assertEqual(web.put_tie("b", "a"), 5)
        self.assertEqual([tie.number for tie in web.ties()], [5])


class LoadsTest(unittest.TestCase):

    def test_set_load(self):
        web = web_with("abc", [("a", "b", 3), ("c", "b", 4, True), ("b", "c", 5)])
        for load in [0, 9, 10 ** 60, 10 ** 60]:
            self.assertIsNone(web.set_load(2, load))
            self.assertEqual(
                [fields(tie) for tie in web.ties()],
                [(1, "a", "b", 3, False), (2, "c", "b", load, True), (3, "b", "c", 5, False)])

    def test_no_loads(self):
        for load in NO_LOADS:
            web = web_with("ab", [("a", "b", 3)])
            with self.subTest(load=load):
                refused_unchanged(self, web, BadLoad, "set_load", 1, load)

    def test_no_tie(self):
        for number in NO_NUMBERS + [0, 2, -1]:
            web = web_with("ab", [("a", "b", 3)])
            with self.subTest(number=number):
                error = refused_unchanged(self, web, NoTie, "set_load", number, 4)
                self.assertIs(error.number, number)
                error = refused_unchanged(self, web, NoTie, "set_load", number, -1)
                self.assertIs(error.number, number)


class OwnTest(unittest.TestCase):
    """What is told is the asker's own, and a copy goes its own way."""

    def setUp(self):
        self.web = web_with("abc", [("a", "b", 3), ("c", "b", 4, True)])

    def test_points(self):
        ahead = told(self.web)
        self.web.points().append("x")
        self.web.points().clear()
        self.assertEqual(told(self.web), ahead)

    def test_ties(self):
        ahead = told(self.web)
        self.web.ties().clear()
        self.web.ties().reverse()
        self.assertEqual(told(self.web), ahead)

    def test_told_lists_stay_as_they_were(self):
        points = self.web.points()
        ties = self.web.ties()
        self.web.put_point("d")
        self.web.put_tie("a", "d")
        self.web.drop_tie(1)
        self.assertEqual(points, ["a", "b", "c"])
        self.assertEqual([tie.number for tie in ties], [1, 2])

    def test_a_told_tie_stays_as_it_was(self):
        deeds = [
            ("rename", "b", "x"), ("join", "a", "b"), ("join", "b", "c"),
            ("part", "b", "x", [1, 2]), ("set_load", 1, 9), ("set_load", 2, 9),
            ("drop_tie", 1),
        ]
        for deed, *handed in deeds:
            with self.subTest(deed=deed):
                web = self.web.copied()
                ties = web.ties() + [web.tie_of(1), web.tie_of(2)]
                ahead = [fields(tie) for tie in ties]
                getattr(web, deed)(*handed)
                self.assertNotEqual([fields(tie) for tie in web.ties()], ahead[:2])
                self.assertEqual([fields(tie) for tie in ties], ahead)

    def test_copied(self):
        self.web.put_tie("a", "b")
        self.web.drop_tie(3)
        web = self.web.copied()
        self.assertIs(type(web), Web)
        self.assertEqual(told(web), told(self.web))
        self.assertEqual(web.given(), 3)
        self.assertEqual(web.put_tie("a", "b"), 4)

    def test_a_copy_and_its_web_go_their_own_ways(self):
        ahead = told(self.web)
        for changed, other in [(0, 1), (1, 0)]:
            pair = [self.web.copied(), None]
            pair[1] = pair[0].copied()
            web = pair[changed]
            web.put_point("d")
            web.put_tie("a", "d")
            web.set_load(1, 9)
            web.rename("b", "x")
            web.join("a", "x")
            web.part("a", "b", [2])
            web.drop_tie(2)
            web.drop_point("c")
            self.assertEqual(told(pair[other]), ahead)
            self.assertNotEqual(told(web), ahead)


if __name__ == "__main__":
    unittest.main()
