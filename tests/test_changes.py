"""Points that are called otherwise, joined and parted."""

import unittest

from helping import (
    NAMES, Alike, fields, full_of_points, full_of_ties, refused_unchanged,
    told, web_with,
)
from reachbook.errors import BadName, NoPoint, NoTie, SamePoint, TooMany, Twice

NO_NAMES = ["", "A", "a1", "abcdefghijklm", None, True, 1, b"a", ["a"], {"a": 1}, Alike()]

# All kinds of ties at b, and one that doesn't end there.
TIES = [
    ("a", "b", 5), ("b", "a", 6, True), ("c", "b", 7, True), ("b", "d", 8),
    ("b", "c", 9, True), ("a", "d", 10, True), ("a", "b", 5),
]


def tied():
    web = web_with("abcd", TIES)
    web.put_tie("a", "d")
    web.drop_tie(8)
    return web


def ties_of(web):
    return [fields(tie) for tie in web.ties()]


class RenameTest(unittest.TestCase):

    def test_keeps_the_place_and_the_ties(self):
        web = tied()
        self.assertIsNone(web.rename("b", "x"))
        self.assertEqual(web.points(), ["a", "x", "c", "d"])
        self.assertEqual(ties_of(web), [
            (1, "a", "x", 5, False), (2, "x", "a", 6, True), (3, "c", "x", 7, True),
            (4, "x", "d", 8, False), (5, "x", "c", 9, True), (6, "a", "d", 10, True),
            (7, "a", "x", 5, False)])
        self.assertEqual(web.given(), 8)

    def test_first_and_last_keep_their_places(self):
        web = web_with("abc")
        web.rename("a", "x")
        web.rename("c", "y")
        self.assertEqual(web.points(), ["x", "b", "y"])

    def test_there_and_back(self):
        web = tied()
        web.rename("b", "x")
        web.rename("x", "b")
        self.assertEqual(told(web), told(tied()))

    def test_the_old_name_is_free(self):
        web = tied()
        web.rename("b", "x")
        refused_unchanged(self, web, NoPoint, "rename", "b", "y")
        web.put_point("b")
        self.assertEqual(web.points(), ["a", "x", "c", "d", "b"])

    def test_in_a_full_web(self):
        web = full_of_points()
        web.rename("a", "q")
        self.assertEqual(web.points(), ["q"] + NAMES[1:])

    def test_no_point(self):
        for name in NO_NAMES + ["x"]:
            with self.subTest(name=name):
                error = refused_unchanged(self, tied(), NoPoint, "rename", name, "y")
                self.assertIs(error.name, name)

    def test_no_name(self):
        for name in NO_NAMES:
            with self.subTest(name=name):
                refused_unchanged(self, tied(), BadName, "rename", "a", name)

    def test_twice(self):
        refused_unchanged(self, tied(), Twice, "rename", "a", "d")
        refused_unchanged(self, tied(), Twice, "rename", "a", "a")

    def test_the_first_refusal_that_is_due(self):
        self.assertEqual(
            refused_unchanged(self, tied(), NoPoint, "rename", "x", "A").name, "x")
        self.assertEqual(
            refused_unchanged(self, tied(), NoPoint, "rename", "x", "a").name, "x")


class JoinTest(unittest.TestCase):

    def test_ties_end_at_the_one_that_stays(self):
        web = tied()
        self.assertIsNone(web.join("d", "b"))
        self.assertEqual(web.points(), ["a", "c", "d"])
        self.assertEqual(ties_of(web), [
            (1, "a", "d", 5, False), (2, "d", "a", 6, True), (3, "c", "d", 7, True),
            (5, "d", "c", 9, True), (6, "a", "d", 10, True), (7, "a", "d", 5, False)])
        self.assertEqual(web.given(), 8)

    def test_all_between_the_two_are_gone(self):
        web = tied()
        web.join("a", "b")
        self.assertEqual(web.points(), ["a", "c", "d"])
        self.assertEqual(ties_of(web), [
            (3, "c", "a", 7, True), (4, "a", "d", 8, False),
            (5, "a", "c", 9, True), (6, "a", "d", 10, True)])
        self.assertEqual(web.put_tie("a", "c"), 9)

    def test_the_other_way_around(self):
        web = tied()
        web.join("b", "a")
        self.assertEqual(web.points(), ["b", "c", "d"])
        self.assertEqual(ties_of(web), [
            (3, "c", "b", 7, True), (4, "b", "d", 8, False),
            (5, "b", "c", 9, True), (6, "b", "d", 10, True)])

    def test_without_ties(self):
        web = web_with("abc")
        web.join("c", "a")
        self.assertEqual(told(web), (["b", "c"], [], 0))

    def test_makes_room_for_points_and_ties(self):
        web = full_of_ties()
        web.join("a", "b")
        self.assertEqual(told(web), (["a", "c"], [], 48))
        self.assertEqual(web.put_tie("a", "c"), 49)
        web = full_of_points()
        web.join("a", "b")
        web.put_point("b")
        self.assertEqual(web.points(), ["a"] + NAMES[2:] + ["b"])

    def test_no_point(self):
        for name in NO_NAMES + ["x"]:
            with self.subTest(name=name):
                error = refused_unchanged(self, tied(), NoPoint, "join", name, "a")
                self.assertIs(error.name, name)
                error = refused_unchanged(self, tied(), NoPoint, "join", "a", name)
                self.assertIs(error.name, name)

    def test_same_point(self):
        refused_unchanged(self, tied(), SamePoint, "join", "b", "b")

    def test_the_first_refusal_that_is_due(self):
        self.assertEqual(
            refused_unchanged(self, tied(), NoPoint, "join", "x", "y").name, "x")
        self.assertEqual(
            refused_unchanged(self, tied(), NoPoint, "join", "x", "x").name, "x")


class PartTest(unittest.TestCase):

    def test_with_all_ties(self):
        web = tied()
        self.assertIsNone(web.part("b", "x", [7, 5, 4, 3, 2, 1]))
        self.assertEqual(web.points(), ["a", "b", "c", "d", "x"])
        self.assertEqual(ties_of(web), [
            (1, "a", "x", 5, False), (2, "x", "a", 6, True), (3, "c", "x", 7, True),
            (4, "x", "d", 8, False), (5, "x", "c", 9, True), (6, "a", "d", 10, True),
            (7, "a", "x", 5, False)])
        self.assertEqual(web.given(), 8)
        web.drop_point("b")

    def test_with_some_ties(self):
        web = tied()
        web.part("b", "x", [4, 1, 3])
        self.assertEqual(web.points(), ["a", "b", "c", "d", "x"])
        self.assertEqual(ties_of(web), [
            (1, "a", "x", 5, False), (2, "b", "a", 6, True), (3, "c", "x", 7, True),
            (4, "x", "d", 8, False), (5, "b", "c", 9, True), (6, "a", "d", 10, True),
            (7, "a", "b", 5, False)])

    def test_with_no_ties(self):
        web = tied()
        web.part("b", "x", [])
        self.assertEqual(web.points(), ["a", "b", "c", "d", "x"])
        self.assertEqual(ties_of(web), ties_of(tied()))

    def test_parted_and_joined(self):
        web = tied()
        web.part("b", "x", [4, 2, 3])
        web.join("b", "x")
        self.assertEqual(told(web), told(tied()))

    def test_the_list_is_neither_changed_nor_kept(self):
        web = tied()
        numbers = [4, 1, 3]
        web.part("b", "x", numbers)
        self.assertEqual(numbers, [4, 1, 3])
        ahead = told(web)
        numbers.append(5)
        numbers[0] = 2
        self.assertEqual(told(web), ahead)

    def test_no_point(self):
        for name in NO_NAMES + ["x"]:
            with self.subTest(name=name):
                error = refused_unchanged(self, tied(), NoPoint, "part", name, "y", [])
                self.assertIs(error.name, name)

    def test_no_name(self):
        for name in NO_NAMES:
            with self.subTest(name=name):
                refused_unchanged(self, tied(), BadName, "part", "b", name, [1])

    def test_twice(self):
        refused_unchanged(self, tied(), Twice, "part", "b", "d", [1])
        refused_unchanged(self, tied(), Twice, "part", "b", "b", [1])

    def test_sixteenth_and_seventeenth(self):
        web = web_with(NAMES[:15], [("a", "b")])
        web.part("a", "p", [1])
        self.assertEqual(told(web), (NAMES, [(1, "p", "b", 0, False)], 1))
        refused_unchanged(self, web, TooMany, "part", "b", "q", [1])

    def test_no_list(self):
        for numbers in [None, (), (1,), {1}, {1: 1}, 1, "1", b"1", True, range(1), Alike()]:
            with self.subTest(numbers=numbers):
                error = refused_unchanged(self, tied(), NoTie, "part", "b", "x", numbers)
                self.assertIsNone(error.number)

    def test_what_is_no_tie_at_the_point(self):
        # 6 ends elsewhere, 8 is dropped, 9 was never given.
        for thing in [6, 8, 9, 0, -1, True, None, "1", 1.0, [1], {}, Alike()]:
            for ahead in [[], [1], [5, 4]]:
                with self.subTest(thing=thing, ahead=ahead):
                    numbers = ahead + [thing, 2, "z"]
                    error = refused_unchanged(self, tied(), NoTie, "part", "b", "x", numbers)
                    self.assertIs(error.number, thing)

    def test_what_stands_twice(self):
        error = refused_unchanged(self, tied(), NoTie, "part", "b", "x", [1, 2, 3, 2, 1])
        self.assertEqual(error.number, 2)
        error = refused_unchanged(self, tied(), NoTie, "part", "b", "x", [1, 1, 6])
        self.assertEqual(error.number, 1)
        error = refused_unchanged(self, tied(), NoTie, "part", "b", "x", [1, 6, 1])
        self.assertEqual(error.number, 6)

    def test_the_first_refusal_that_is_due(self):
        full = full_of_points()
        self.assertEqual(
            refused_unchanged(self, full, NoPoint, "part", "x", "A", None).name, "x")
        self.assertEqual(
            refused_unchanged(self, full, NoPoint, "part", "x", "a", None).name, "x")
        refused_unchanged(self, full, BadName, "part", "a", "A", None)
        refused_unchanged(self, full, Twice, "part", "a", "b", None)
        refused_unchanged(self, full, TooMany, "part", "a", "q", None)
        refused_unchanged(self, full, TooMany, "part", "a", "q", [1])
        refused_unchanged(self, tied(), Twice, "part", "b", "a", [9])
        refused_unchanged(self, tied(), BadName, "part", "b", "", [9])


if __name__ == "__main__":
    unittest.main()
