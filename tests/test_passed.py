"""Ties and points that must be passed, leaves."""

import unittest

from helping import (
    Alike, all_ways, great_webs, made_webs, other_loads, reached, refused, shown,
    turned_kinds, walked, web_with,
)
from reachbook.errors import NoPoint, NoTie, SamePoint
from reachbook.passed import (
    Around, Parted, border_by, leaves, must_points, must_tie, must_ties,
    need_points, way_by, way_past,
)
from reachbook.pieces import Border, Way
from reachbook.webs import Web

NO_POINTS = ["x", "", "A", None, True, 1, b"a", ["a"], ("a",), {"a": 1}, {"a"}, Alike()]
NO_NUMBERS = [None, True, False, "1", b"1", 1.0, [1], (1,), {1: 1}, {1}, Alike(), -1, 0, 10 ** 60]


def bridges():
    """Two rings, e-a-c and f-b, joined by 4; 7 leads to d, g is alone."""
    return web_with("gfedcba", [
        ("a", "c"), ("c", "e", 0, True), ("a", "e"), ("c", "b", 0, True),
        ("b", "f"), ("b", "f", 0, True), ("d", "f", 0, True),
    ])


def pairs_with_ways(case, call):
    """Pairs of points with all ways between them; where there is none, call tells a Border."""
    for web in made_webs():
        for one in web.points():
            for other in web.points():
                ways = all_ways(web, one, other, True)
                if one != other and ways:
                    yield web, one, other, ways
                elif one != other:
                    border = Border(reached(web, one, True))
                    case.assertEqual(shown(call(web, one, other)), shown(border))


class MustTieTest(unittest.TestCase):

    def test_a_second_way_around(self):
        self.assertEqual(shown(must_tie(bridges(), 1)), shown(Around([3, 2])))
        self.assertEqual(shown(must_tie(bridges(), 3)), shown(Around([1, 2])))
        self.assertEqual(shown(must_tie(bridges(), 5)), shown(Around([6])))
        self.assertEqual(shown(must_tie(bridges(), 6)), shown(Around([5])))

    def test_one_that_parts(self):
        self.assertEqual(shown(must_tie(bridges(), 4)), shown(Parted(["e", "c", "a"])))
        self.assertEqual(shown(must_tie(bridges(), 7)), shown(Parted(["d"])))

    def test_oneway_ties_as_plain_ones(self):
        web = web_with("abc", [("a", "b", 0, True), ("c", "b", 0, True), ("c", "a", 0, True)])
        self.assertEqual(must_tie(web, 1).numbers, [3, 2])
        for web in made_webs():
            for tie in web.ties():
                found = shown(must_tie(web, tie.number))
                self.assertEqual(shown(must_tie(other_loads(web), tie.number)), found)

    def test_all_ties(self):
        kinds = set()
        for web in made_webs() + great_webs():
            for tie in web.ties():
                found = must_tie(web, tie.number)
                kinds.add(type(found))
                side = reached(web, tie.tail, True, [tie.number])
                if tie.head in side:
                    self.assertIs(type(found), Around)
                    self.assertNotIn(tie.number, found.numbers)
                    self.assertEqual(walked(self, web, found.numbers, tie.tail, True)[-1], tie.head)
                else:
                    self.assertEqual(shown(found), shown(Parted(side)))
        self.assertEqual(kinds, {Around, Parted})

    def test_no_tie(self):
        web = bridges()
        web.drop_tie(7)
        for number in NO_NUMBERS + [7, 8]:
            with self.subTest(number=number):
                self.assertIs(refused(self, NoTie, must_tie, web, number).number, number)


class MustTiesTest(unittest.TestCase):

    def test_rising(self):
        self.assertEqual(must_ties(bridges(), "d", "e"), [4, 7])
        self.assertEqual(must_ties(bridges(), "e", "d"), [4, 7])
        self.assertEqual(must_ties(bridges(), "b", "f"), [])
        self.assertEqual(must_ties(bridges(), "b", "d"), [7])

    def test_where_there_is_no_way(self):
        self.assertEqual(
            shown(must_ties(bridges(), "a", "g")), shown(Border(["f", "e", "d", "c", "b", "a"])))
        self.assertEqual(shown(must_ties(bridges(), "g", "a")), shown(Border(["g"])))

    def test_what_every_way_has(self):
        for web, one, other, ways in pairs_with_ways(self, must_ties):
            self.assertEqual(must_ties(web, one, other), [
                tie.number for tie in web.ties()
                if all(tie.number in dict(way) for way in ways)])

    def test_great_webs(self):
        for web in great_webs():
            for one in web.points():
                for other in web.points():
                    if one != other and other in reached(web, one, True):
                        found = must_ties(web, one, other)
                        self.assertEqual(found, sorted(found))
                        for number in found:
                            self.assertNotIn(other, reached(web, one, True, [number]))


class MustPointsTest(unittest.TestCase):

    def test_in_the_webs_order(self):
        self.assertEqual(must_points(bridges(), "d", "e"), ["f", "c", "b"])
        self.assertEqual(must_points(bridges(), "e", "d"), ["f", "c", "b"])
        self.assertEqual(must_points(bridges(), "b", "f"), [])
        self.assertEqual(must_points(bridges(), "b", "d"), ["f"])

    def test_where_there_is_no_way(self):
        self.assertEqual(
            shown(must_points(bridges(), "a", "g")), shown(Border(["f", "e", "d", "c", "b", "a"])))

    def test_what_every_way_passes(self):
        for web, one, other, ways in pairs_with_ways(self, must_points):
            self.assertEqual(must_points(web, one, other), [
                name for name in web.points() if name not in (one, other)
                and all(name in [point for _, point in way] for way in ways)])


class WayPastTest(unittest.TestCase):

    def test_a_way_past(self):
        self.assertEqual(shown(way_past(bridges(), "a", "e", "c")), shown(Way([3])))
        self.assertEqual(shown(way_past(bridges(), "e", "c", "a")), shown(Way([2])))
        self.assertEqual(shown(way_past(bridges(), "e", "c", "g")), shown(Way([2])))

    def test_where_there_is_none(self):
        self.assertEqual(shown(way_past(bridges(), "a", "d", "b")), shown(Border(["e", "c", "a"])))
        self.assertEqual(shown(way_past(bridges(), "d", "a", "b")), shown(Border(["f", "d"])))
        self.assertEqual(shown(way_past(bridges(), "g", "a", "b")), shown(Border(["g"])))
        self.assertEqual(
            shown(way_past(bridges(), "a", "g", "f")), shown(Border(["e", "c", "b", "a"])))

    def test_all_points(self):
        for web in made_webs():
            for one in web.points():
                for other in web.points():
                    for name in web.points():
                        if len({one, other, name}) == 3:
                            self.need_past(web, one, other, name)
        for web in great_webs():
            for other in web.points()[1:]:
                for name in web.points()[1:]:
                    if other != name:
                        self.need_past(web, "a", other, name)

    def need_past(self, web, one, other, name):
        at_name = [tie.number for tie in web.ties() if name in (tie.tail, tie.head)]
        side = reached(web, one, True, at_name)
        found = way_past(web, one, other, name)
        if other in side:
            self.assertIs(type(found), Way)
            met = walked(self, web, found.numbers, one, True)
            self.assertEqual(met[-1], other)
            self.assertNotIn(name, met)
        else:
            self.assertEqual(shown(found), shown(Border(side)))


class RefusalsTest(unittest.TestCase):

    def test_no_point_by_place(self):
        web = bridges()
        for name in NO_POINTS:
            for call in [must_ties, must_points]:
                with self.subTest(name=name, call=call):
                    for handed in [(name, "a"), ("a", name), (name, "y"), (name, name)]:
                        self.assertIs(refused(self, NoPoint, call, web, *handed).name, name)
            for handed in [(name, "a", "b"), ("a", name, "b"), ("a", "b", name), ("a", "a", name),
                           ("a", name, "a"), (name, "a", "a"), (name, "y", "z"), ("a", name, "z")]:
                with self.subTest(handed=handed):
                    self.assertIs(refused(self, NoPoint, way_past, web, *handed).name, name)
                    self.assertIs(refused(self, NoPoint, need_points, web, list(handed)).name, name)

    def test_same_point(self):
        for call in [must_ties, must_points]:
            refused(self, SamePoint, call, bridges(), "a", "a")
            refused(self, SamePoint, call, bridges(), "g", "g")
        for handed in [("a", "a", "b"), ("a", "b", "a"), ("b", "a", "a"), ("a", "a", "a")]:
            refused(self, SamePoint, way_past, bridges(), *handed)
            refused(self, SamePoint, need_points, bridges(), list(handed))


class LeavesTest(unittest.TestCase):

    def test_webs_with_rings(self):
        self.assertEqual(leaves(bridges()), [["g"], ["f", "b"], ["e", "c", "a"], ["d"]])

    def test_webs_without_rings(self):
        web = web_with("dcba", [("a", "b"), ("b", "c", 0, True), ("b", "d")])
        self.assertEqual(leaves(web), [["d"], ["c"], ["b"], ["a"]])
        self.assertEqual(leaves(Web()), [])

    def test_side_by_side(self):
        web = web_with("abc", [("a", "b", 0, True), ("a", "b", 0, True), ("b", "c")])
        self.assertEqual(leaves(web), [["a", "b"], ["c"]])

    def test_all_webs(self):
        for web in made_webs() + great_webs():
            parting = [tie.number for tie in web.ties()
                       if tie.head not in reached(web, tie.tail, True, [tie.number])]
            found = leaves(web)
            self.assertEqual(sorted(sum(found, [])), sorted(web.points()))
            for leaf in found:
                self.assertEqual(leaf, reached(web, leaf[0], True, parting))
            firsts = [leaf[0] for leaf in found]
            self.assertEqual(firsts, sorted(firsts, key=web.points().index))


class KindsTest(unittest.TestCase):

    def test_oneway_ties_count_as_plain_ones(self):
        for web in made_webs(30):
            for alike in [turned_kinds(web, True), turned_kinds(web, False)]:
                self.assertEqual(leaves(alike), leaves(web))
                for one in web.points():
                    for other in web.points():
                        if one != other:
                            for call in [must_ties, must_points]:
                                self.assertEqual(
                                    shown(call(alike, one, other)), shown(call(web, one, other)))


class FreeTest(unittest.TestCase):

    def test_need_points(self):
        names = ["a", "g", "c"]
        self.assertIsNone(need_points(bridges(), names))
        self.assertEqual(names, ["a", "g", "c"])
        self.assertIsNone(need_points(bridges(), []))
        self.assertIsNone(need_points(bridges(), ["d"]))

    def test_border_by(self):
        web = bridges()
        came = {"a": None, "c": (1, "a"), "e": (3, "a")}
        found = border_by(web, came)
        self.assertEqual(shown(found), shown(Border(["e", "c", "a"])))
        self.assertEqual(came, {"a": None, "c": (1, "a"), "e": (3, "a")})
        came.clear()
        self.assertEqual(found.names, ["e", "c", "a"])
        found.names.clear()
        self.assertEqual(shown(border_by(web, ["a", "e"])), shown(Border(["e", "a"])))
        self.assertEqual(shown(border_by(web, {})), shown(Border([])))

    def test_way_by(self):
        came = {"a": None, "c": (1, "a"), "b": (4, "c"), "f": (6, "b"), "e": (3, "a")}
        kept = dict(came)
        self.assertEqual(way_by(came, "f"), [1, 4, 6])
        self.assertEqual(way_by(came, "e"), [3])
        self.assertEqual(way_by(came, "a"), [])
        way_by(came, "f").clear()
        self.assertEqual(came, kept)
        self.assertEqual(way_by(came, "f"), [1, 4, 6])


if __name__ == "__main__":
    unittest.main()
