"""Where one comes, knots, rings through two points, starts."""

import unittest

from helping import (
    NAMES, Alike, great_webs, made_webs, other_loads, reached, refused, shown, walked, web_with,
)
from reachbook.errors import NoPoint, SamePoint
from reachbook.knots import Ring, comes, knots, ring_through, starts
from reachbook.pieces import Border, Way
from reachbook.webs import Web

NO_POINTS = ["x", "", "A", None, True, 1, b"a", ["a"], ("a",), {"a": 1}, {"a"}, Alike()]

# A ring c-d-e of one-way ties leads to a-b, and f to both; g is alone.
TIES = [
    ("c", "d", 0, True), ("d", "e", 0, True), ("e", "c", 0, True),
    ("e", "b", 0, True), ("a", "b"), ("f", "a", 0, True), ("f", "d", 0, True),
]


def led():
    return web_with("abcdefg", TIES)


class ComesTest(unittest.TestCase):

    def test_a_way(self):
        self.assertEqual(shown(comes(led(), "c", "a")), shown(Way([1, 2, 4, 5])))
        self.assertEqual(shown(comes(led(), "d", "c")), shown(Way([2, 3])))
        self.assertEqual(shown(comes(led(), "b", "a")), shown(Way([5])))

    def test_a_border(self):
        self.assertEqual(shown(comes(led(), "b", "c")), shown(Border(["a", "b"])))
        self.assertEqual(shown(comes(led(), "e", "f")), shown(Border(["a", "b", "c", "d", "e"])))
        self.assertEqual(shown(comes(led(), "g", "a")), shown(Border(["g"])))

    def test_from_a_point_to_itself(self):
        for name in "abcdefg":
            self.assertEqual(shown(comes(led(), name, name)), shown(Way([])))

    def test_no_point_by_place(self):
        for name in NO_POINTS:
            with self.subTest(name=name):
                for handed in [(name, "a"), ("a", name), (name, "y"), (name, name)]:
                    self.assertIs(refused(self, NoPoint, comes, led(), *handed).name, name)
                    self.assertIs(refused(self, NoPoint, ring_through, led(), *handed).name, name)

    def test_all_pairs(self):
        for web in made_webs() + great_webs():
            for one in web.points():
                border = reached(web, one, False)
                for other in web.points():
                    found = comes(web, one, other)
                    if other in border:
                        self.assertIs(type(found), Way)
                        self.assertEqual(walked(self, web, found.numbers, one, False)[-1], other)
                    else:
                        self.assertEqual(shown(found), shown(Border(border)))


def knots_by_words(web):
    """The knots by the document's own words."""
    came = {name: reached(web, name, False) for name in web.points()}
    left = []
    for name in web.points():
        knot = [other for other in web.points() if other in came[name] and name in came[other]]
        if knot not in left:
            left.append(knot)
    order = []
    while left:
        for knot in left:
            others = [name for other in left if other != knot for name in other]
            if not any(tie.head in knot and tie.tail in others for tie in web.ties()):
                order.append(knot)
                break
        left.remove(order[-1])
    return order


class KnotsTest(unittest.TestCase):

    def test_the_earliest_point_in_a_late_knot(self):
        self.assertEqual(knots(led()), [["f"], ["c", "d", "e"], ["a", "b"], ["g"]])

    def test_points_in_another_order(self):
        self.assertEqual(knots(web_with("gbafedc", TIES)), [["g"], ["f"], ["e", "d", "c"], ["b", "a"]])
        self.assertEqual(knots(web_with("edcgfab", TIES)), [["g"], ["f"], ["e", "d", "c"], ["a", "b"]])

    def test_next_is_the_one_with_the_earliest_point_of_those_that_are_free(self):
        # b is freed by d alone, and stands ahead of c then.
        web = web_with("abcd", [("d", "b", 0, True), ("b", "a", 0, True)])
        self.assertEqual(knots(web), [["c"], ["d"], ["b"], ["a"]])
        web = web_with("abdc", [("d", "b", 0, True), ("b", "a", 0, True)])
        self.assertEqual(knots(web), [["d"], ["b"], ["a"], ["c"]])

    def test_plain_ties_and_none(self):
        self.assertEqual(knots(Web()), [])
        self.assertEqual(knots(web_with("cab")), [["c"], ["a"], ["b"]])
        self.assertEqual(knots(web_with("cab", [("a", "b"), ("b", "c")])), [["c", "a", "b"]])

    def test_a_long_row_of_knots(self):
        ties = [(NAMES[at + 1], NAMES[at], 0, True) for at in range(15)]
        self.assertEqual(knots(web_with(NAMES, ties)), [[name] for name in NAMES[::-1]])
        self.assertEqual(
            knots(web_with(NAMES, ties + [("a", "p", 0, True)])), [NAMES])

    def test_all_webs(self):
        for web in made_webs(200) + great_webs():
            found = knots(web)
            self.assertEqual(found, knots_by_words(web))
            place = {name: at for at, knot in enumerate(found) for name in knot}
            for tie in web.ties():
                self.assertLessEqual(place[tie.tail], place[tie.head])

    def test_loads_move_nothing(self):
        for web in made_webs():
            self.assertEqual(knots(other_loads(web)), knots(web))


class RingThroughTest(unittest.TestCase):

    def test_there_and_back(self):
        self.assertEqual(shown(ring_through(led(), "c", "e")), shown(Ring([1, 2, 3])))
        self.assertEqual(shown(ring_through(led(), "e", "c")), shown(Ring([3, 1, 2])))

    def test_a_plain_tie_in_both(self):
        self.assertEqual(shown(ring_through(led(), "a", "b")), shown(Ring([5, 5])))

    def test_the_border_of_the_one_else_of_the_other(self):
        self.assertEqual(shown(ring_through(led(), "a", "c")), shown(Border(["a", "b"])))
        self.assertEqual(shown(ring_through(led(), "c", "a")), shown(Border(["a", "b"])))
        self.assertEqual(
            shown(ring_through(led(), "c", "f")), shown(Border(["a", "b", "c", "d", "e"])))
        self.assertEqual(
            shown(ring_through(led(), "f", "c")), shown(Border(["a", "b", "c", "d", "e"])))
        self.assertEqual(shown(ring_through(led(), "a", "g")), shown(Border(["a", "b"])))
        self.assertEqual(shown(ring_through(led(), "g", "a")), shown(Border(["g"])))

    def test_same_point(self):
        refused(self, SamePoint, ring_through, led(), "a", "a")
        refused(self, SamePoint, ring_through, led(), "g", "g")

    def test_all_pairs(self):
        for web in made_webs() + great_webs():
            for one in web.points():
                for other in web.points():
                    if one != other:
                        self.need_ring(web, one, other)

    def need_ring(self, web, one, other):
        found = ring_through(web, one, other)
        there, back = reached(web, one, False), reached(web, other, False)
        if other not in there:
            self.assertEqual(shown(found), shown(Border(there)))
        elif one not in back:
            self.assertEqual(shown(found), shown(Border(back)))
        else:
            self.assertIs(type(found), Ring)
            splits = []
            for at in range(len(found.numbers) + 1):
                try:
                    met = walked(self, web, found.numbers[:at], one, False)
                    again = walked(self, web, found.numbers[at:], other, False)
                except AssertionError:
                    continue
                splits.append((met[-1], again[-1]))
            self.assertIn((other, one), splits)


class StartsTest(unittest.TestCase):

    def test_in_the_webs_order(self):
        self.assertEqual(starts(led()), ["f", "g"])
        self.assertEqual(starts(web_with("gfedcba", TIES)), ["g", "f"])
        self.assertEqual(starts(web_with("edcba", TIES[:5])), ["e"])

    def test_of_each_knot_the_first_point(self):
        web = web_with("dcba", [("b", "c"), ("a", "d"), ("a", "c", 0, True)])
        self.assertEqual(starts(web), ["d"])
        web = web_with("dcba", [("b", "c"), ("a", "d")])
        self.assertEqual(starts(web), ["d", "c"])

    def test_empty_web(self):
        self.assertEqual(starts(Web()), [])
        self.assertEqual(starts(web_with("ba")), ["b", "a"])

    def test_from_them_all_points_are_come_to(self):
        for web in made_webs(200) + great_webs():
            found = starts(web)
            self.assertEqual(found, sorted(found, key=web.points().index))
            came = [name for one in found for name in reached(web, one, False)]
            self.assertEqual(set(came), set(web.points()))
            self.assertEqual(found, [
                name for name in web.points()
                if reached_by(web, name) == knot_of(web, name) and knot_of(web, name)[0] == name])


def reached_by(web, name):
    """All points that come to one."""
    return [one for one in web.points() if name in reached(web, one, False)]


def knot_of(web, name):
    return [one for one in reached_by(web, name) if one in reached(web, name, False)]


if __name__ == "__main__":
    unittest.main()
