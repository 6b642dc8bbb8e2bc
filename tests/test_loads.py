"""Loads, fewest ties, ways apart."""

import unittest

from helping import (
    NAMES, Alike, all_ways, great_webs, made_web, made_webs, other_loads, reached, refused, shown,
    steps_of, turned_kinds, walked, web_with,
)
from reachbook.errors import NoPoint, SamePoint
from reachbook.loads import (
    Apart, Fewest, Forest, Least, fewest, least_way, lightest, ways_apart,
)
from reachbook.pieces import Border, ring_by
from reachbook.webs import MOST, Web

NO_POINTS = ["x", "", "A", None, True, 1, b"a", ["a"], ("a",), {"a": 1}, {"a"}, Alike()]


class LightestTest(unittest.TestCase):

    def test_a_forest(self):
        web = web_with("abcde", [("a", "b", 5), ("b", "c", 3), ("a", "c", 4), ("d", "e", 7, True)])
        self.assertEqual(shown(lightest(web)), shown(Forest([2, 3, 4], 14)))

    def test_of_two_alike_the_greater_number_is_left_out(self):
        web = web_with("abc", [("a", "b", 2), ("b", "c", 2), ("c", "a", 2), ("a", "b", 2)])
        self.assertEqual(shown(lightest(web)), shown(Forest([1, 2], 4)))
        web = web_with("abc", [("a", "b", 2), ("b", "c", 2), ("c", "a", 1), ("c", "b", 2)])
        self.assertEqual(shown(lightest(web)), shown(Forest([1, 3], 3)))

    def test_least_and_greatest_loads(self):
        web = web_with("abc", [("a", "b", MOST), ("b", "c", MOST), ("a", "b", MOST)])
        self.assertEqual(shown(lightest(web)), shown(Forest([1, 2], 2 * MOST)))
        web = web_with("ab", [("a", "b", MOST), ("a", "b", MOST - 1), ("a", "b", 0), ("a", "b", 0)])
        self.assertEqual(shown(lightest(web)), shown(Forest([3], 0)))

    def test_empty_webs(self):
        self.assertEqual(shown(lightest(Web())), shown(Forest([], 0)))
        self.assertEqual(shown(lightest(web_with("ab"))), shown(Forest([], 0)))

    def test_oneway_ties_as_plain_ones(self):
        for web in made_webs():
            for alike in [turned_kinds(web, True), turned_kinds(web, False)]:
                self.assertEqual(shown(lightest(alike)), shown(lightest(web)))

    def test_all_webs(self):
        for web in made_webs(200) + great_webs():
            found = lightest(web)
            self.assertEqual(found.numbers, sorted(found.numbers))
            self.assertEqual(found.load, sum(web.tie_of(number).load for number in found.numbers))
            for tie in web.ties():
                if tie.number not in found.numbers:
                    # This refuses what is no forest, too.
                    ring = [web.tie_of(number) for number in ring_by(web, found.numbers, tie.number)]
                    self.assertEqual(max((one.load, one.number) for one in ring), (tie.load, tie.number))
            others = [tie.number for tie in web.ties() if tie.number not in found.numbers]
            for name in web.points():
                self.assertEqual(reached(web, name, True, others), reached(web, name, True))


# From a to d by 1, 2, 3 with a load of 6, by 4 with one of 7; e is led from, f alone.
LED = [("a", "b", 1, True), ("b", "c", 2), ("c", "d", 3, True), ("a", "d", 7), ("e", "a", 0, True)]


def led():
    return web_with("fedcba", LED)


class LeastWayTest(unittest.TestCase):

    def test_a_least_way(self):
        found = least_way(led(), "a", "d")
        self.assertEqual(found.numbers, [1, 2, 3])
        self.assertEqual(found.load, 6)
        self.assertEqual(found.heights, {"a": 0, "b": 1, "c": 3, "d": 6})
        self.assertIs(type(found), Least)
        found = least_way(led(), "d", "c")
        self.assertEqual((found.numbers, found.load), ([4, 1, 2], 10))
        self.assertEqual(found.heights, {"d": 0, "a": 7, "b": 8, "c": 10})

    def test_a_point_and_itself(self):
        found = least_way(led(), "e", "e")
        self.assertEqual((found.numbers, found.load), ([], 0))
        self.assertEqual(found.heights, {"e": 0, "a": 0, "b": 1, "c": 3, "d": 6})
        self.assertEqual(shown(least_way(led(), "f", "f")), shown(Least([], 0, {"f": 0})))

    def test_a_border(self):
        self.assertEqual(shown(least_way(led(), "c", "e")), shown(Border(["d", "c", "b", "a"])))
        self.assertEqual(shown(least_way(led(), "f", "a")), shown(Border(["f"])))

    def test_loads_of_nought_and_the_greatest(self):
        ties = [(NAMES[at], NAMES[(at + 1) % 16], MOST) for at in range(15)]
        found = least_way(web_with(NAMES, ties), "a", "p")
        self.assertEqual(found.load, 15 * MOST)
        self.assertEqual(found.heights, {name: at * MOST for at, name in enumerate(NAMES)})
        web = web_with("abcd", [
            ("a", "b"), ("b", "c"), ("c", "a"), ("c", "b"), ("c", "d"), ("d", "a")])
        for one in "abcd":
            for other in "abcd":
                found = least_way(web, one, other)
                self.assertEqual(found.load, 0)
                self.assertEqual(walked(self, web, found.numbers, one, False)[-1], other)

    def test_all_pairs(self):
        for web in made_webs(120):
            for one in web.points():
                for other in web.points():
                    self.need_least(web, one, other)

    def need_least(self, web, one, other):
        found = least_way(web, one, other)
        border = reached(web, one, False)
        if other not in border:
            self.assertEqual(shown(found), shown(Border(border)))
            return
        self.assertEqual(walked(self, web, found.numbers, one, False)[-1], other)
        self.assertEqual(sum(web.tie_of(number).load for number in found.numbers), found.load)
        self.assertEqual(found.heights, {
            name: min(sum(web.tie_of(number).load for number, _ in way)
                      for way in all_ways(web, one, name, False))
            for name in border})
        self.assertEqual(found.heights[other], found.load)

    def test_great_webs(self):
        for web in great_webs():
            for one in web.points():
                for other in web.points():
                    found = least_way(web, one, other)
                    border = reached(web, one, False)
                    if other not in border:
                        self.assertEqual(shown(found), shown(Border(border)))
                        continue
                    self.assertEqual(sorted(found.heights), sorted(border))
                    self.assertEqual(found.heights[one], 0)
                    for number, ahead, behind in steps_of(web, False):
                        if ahead in border:
                            rise = found.heights[behind] - found.heights[ahead]
                            self.assertLessEqual(rise, web.tie_of(number).load)
                    met = walked(self, web, found.numbers, one, False)
                    self.assertEqual(met[-1], other)
                    load = sum(web.tie_of(number).load for number in found.numbers)
                    self.assertEqual(found.load, load)
                    self.assertEqual(found.heights[other], load)


class FewestTest(unittest.TestCase):

    def test_a_way_of_fewest_ties(self):
        self.assertEqual(
            shown(fewest(led(), "a", "d")), shown(Fewest([4], [["a"], ["d", "b"], ["c"]])))
        self.assertEqual(
            shown(fewest(led(), "e", "c")),
            shown(Fewest([5, 1, 2], [["e"], ["a"], ["d", "b"], ["c"]])))

    def test_a_point_and_itself(self):
        self.assertEqual(
            shown(fewest(led(), "b", "b")), shown(Fewest([], [["b"], ["c"], ["d"], ["a"]])))
        self.assertEqual(shown(fewest(led(), "f", "f")), shown(Fewest([], [["f"]])))

    def test_a_border(self):
        self.assertEqual(shown(fewest(led(), "c", "e")), shown(Border(["d", "c", "b", "a"])))
        self.assertEqual(shown(fewest(led(), "f", "a")), shown(Border(["f"])))

    def test_all_pairs(self):
        for web in made_webs() + great_webs():
            for one in web.points():
                layers, met = [[one]], [one]
                while layers[-1]:
                    met.extend(layers[-1])
                    ends = [to for _, ahead, to in steps_of(web, False) if ahead in layers[-1]]
                    layers.append([name for name in web.points() if name in ends and name not in met])
                layers.pop()
                for other in web.points():
                    found = fewest(web, one, other)
                    if other not in met:
                        border = [name for name in web.points() if name in met]
                        self.assertEqual(shown(found), shown(Border(border)))
                        continue
                    self.assertIs(type(found), Fewest)
                    self.assertEqual(found.layers, layers)
                    self.assertEqual(walked(self, web, found.numbers, one, False)[-1], other)
                    self.assertIn(other, layers[len(found.numbers)])

    def test_loads_move_nothing(self):
        for web in made_webs():
            for other in web.points():
                one = web.points()[0]
                self.assertEqual(shown(fewest(other_loads(web), one, other)), shown(fewest(web, one, other)))


class WaysApartTest(unittest.TestCase):

    def need_apart(self, web, one, other):
        """Ways and a wall of as many ties: so neither can be more, or fewer."""
        found = ways_apart(web, one, other)
        self.assertIs(type(found), Apart)
        for way in found.ways:
            self.assertEqual(walked(self, web, way, one, False)[-1], other)
        numbers = [number for way in found.ways for number in way]
        self.assertEqual(len(numbers), len(set(numbers)))
        self.assertEqual(found.wall, sorted(set(found.wall)))
        self.assertEqual(len(found.wall), len(found.ways))
        self.assertTrue(set(found.wall) <= {tie.number for tie in web.ties()})
        self.assertNotIn(other, reached(web, one, False, found.wall))
        return found

    def test_two_ways(self):
        found = self.need_apart(led(), "a", "d")
        self.assertEqual(sorted(found.ways), [[1, 2, 3], [4]])
        self.assertEqual(len(self.need_apart(led(), "d", "c").ways), 1)

    def test_side_by_side(self):
        web = web_with("ab", [("a", "b"), ("b", "a"), ("a", "b", 0, True), ("b", "a", 0, True)])
        found = self.need_apart(web, "a", "b")
        self.assertEqual(sorted(found.ways), [[1], [2], [3]])
        self.assertEqual(found.wall, [1, 2, 3])
        self.assertEqual(ways_apart(web, "b", "a").wall, [1, 2, 4])

    def test_a_plain_tie_that_two_ways_would_go_in_opposite_directions(self):
        # The shortest way a-b-e-f goes from b to e; of two ways none does so,
        # and a second one is found by going back there alone.
        for is_oneway in [False, True]:
            ties = [("a", "b", 0, True), ("b", "e", 0, is_oneway), ("e", "f", 0, True),
                    ("b", "c", 0, True), ("c", "d", 0, True), ("d", "f", 0, True),
                    ("a", "g", 0, True), ("g", "h", 0, True), ("h", "e", 0, True)]
            found = self.need_apart(web_with("abcdefgh", ties), "a", "f")
            self.assertEqual(sorted(found.ways), [[1, 4, 5, 6], [7, 8, 9, 3]])
        web = web_with("abcdefgh", [tie[:2] for tie in ties])
        self.assertEqual(len(self.need_apart(web, "a", "f").ways), 2)
        self.assertEqual(len(self.need_apart(web, "f", "a").ways), 2)

    def test_greater_webs(self):
        for seed in range(40):
            web = made_web(seed, 16, 40)
            for one in web.points():
                for other in web.points():
                    if one != other:
                        self.need_apart(web, one, other)

    def test_ways_may_share_points(self):
        web = web_with("abc", [("a", "b"), ("a", "b"), ("b", "c"), ("b", "c")])
        found = self.need_apart(web, "a", "c")
        self.assertEqual(len(found.ways), 2)

    def test_no_way_at_all(self):
        for one, other in [("a", "f"), ("f", "a"), ("d", "e"), ("c", "e")]:
            self.assertEqual(shown(ways_apart(led(), one, other)), shown(Apart([], [])))

    def test_all_pairs(self):
        for web in made_webs(200) + great_webs():
            for one in web.points():
                for other in web.points():
                    if one != other:
                        self.need_apart(web, one, other)

    def test_loads_move_nothing(self):
        for web in made_webs():
            for other in web.points()[1:]:
                one = web.points()[0]
                self.assertEqual(
                    shown(ways_apart(other_loads(web), one, other)), shown(ways_apart(web, one, other)))


class RefusalsTest(unittest.TestCase):

    def test_no_point_by_place(self):
        for call in [least_way, fewest, ways_apart]:
            for name in NO_POINTS:
                for handed in [(name, "a"), ("a", name), (name, "y"), (name, name)]:
                    with self.subTest(call=call, handed=handed):
                        self.assertIs(refused(self, NoPoint, call, led(), *handed).name, name)

    def test_same_point(self):
        refused(self, SamePoint, ways_apart, led(), "a", "a")
        refused(self, SamePoint, ways_apart, led(), "f", "f")


if __name__ == "__main__":
    unittest.main()
