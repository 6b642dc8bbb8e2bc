"""What holds of all that a web is asked: [0], [44], [54], and the interface."""

import unittest

from helping import made_web, made_webs, other_loads, shown, spoil, told, web_with, widened
from reachbook import knots, loads, passed, pieces
from reachbook.webs import web_lines, web_of

WHOLE = [
    pieces.pieces, pieces.forest, pieces.sides, passed.leaves,
    knots.knots, knots.starts, loads.lightest,
]
OF_TWO = [
    pieces.together, passed.must_ties, passed.must_points, knots.comes,
    knots.ring_through, loads.least_way, loads.fewest, loads.ways_apart,
]
NOT_OF_ONE_POINT = [
    passed.must_ties, passed.must_points, knots.ring_through, loads.ways_apart,
]
BY_LOADS = [loads.lightest, loads.least_way]


def asks(web, points, is_local=False):
    """All that can be asked: a function, and what is handed to it behind the web."""
    found = []
    for one in points:
        for other in points:
            for call in OF_TWO:
                if one != other or call not in NOT_OF_ONE_POINT:
                    found.append((call, [one, other]))
            for name in points:
                if len({one, other, name}) == 3:
                    found.append((passed.way_past, [one, other, name]))
    for tie in web.ties():
        if tie.tail in points:
            found.append((passed.must_tie, [tie.number]))
    if not is_local:
        found.extend([(call, []) for call in WHOLE])
        trees = pieces.forest(web)
        for tie in web.ties():
            if tie.number not in trees:
                found.append((pieces.ring_by, [trees, tie.number]))
    return found


class AskedTest(unittest.TestCase):

    def test_a_web_that_was_asked_is_as_it_stood(self):
        for web in made_webs(20):
            ahead = told(web)
            for call, handed in asks(web, web.points()):
                call(web, *handed)
                self.assertEqual(told(web), ahead)

    def test_what_is_told_is_the_askers_own(self):
        for web in made_webs(20):
            for call, handed in asks(web, web.points()):
                first = call(web, *handed)
                kept = shown(first)
                second = call(web, *handed)
                spoil(first)
                self.assertEqual(shown(second), kept)
                self.assertEqual(shown(call(web, *handed)), kept)

    def test_what_is_told_stays_when_the_web_changes(self):
        web = made_web(7)
        answers = [call(web, *handed) for call, handed in asks(web, web.points())]
        kept = shown(answers)
        for tie in web.ties():
            web.drop_tie(tie.number)
        for name in web.points():
            web.drop_point(name)
        self.assertEqual(shown(answers), kept)

    def test_the_same_of_webs_with_the_same_lines(self):
        for web in made_webs(30):
            again = web_of(web_lines(web))
            for call, handed in asks(web, web.points()):
                found = shown(call(web, *handed))
                self.assertEqual(shown(call(again, *handed)), found)
                self.assertEqual(shown(call(web.copied(), *handed)), found)

    def test_a_web_that_came_another_way(self):
        web = web_with("abc", [("a", "b"), ("b", "c")])
        web.part("b", "d", [2])
        web.rename("d", "e")
        web.put_tie("e", "a", 3, True)
        web.join("c", "e")
        for call, handed in asks(web, web.points()):
            self.assertEqual(shown(call(web_of(web_lines(web)), *handed)), shown(call(web, *handed)))

    def test_loads_move_nothing_but_where_they_are_asked(self):
        for web in made_webs(30):
            for call, handed in asks(web, web.points()):
                if call not in BY_LOADS:
                    self.assertEqual(
                        shown(call(other_loads(web), *handed)), shown(call(web, *handed)))

    def test_other_pieces_move_nothing(self):
        for web in made_webs():
            alone = widened(web, False)
            amid = widened(web)
            self.assertGreater(len(amid.points()), len(alone.points()))
            for call, handed in asks(alone, web.points(), True):
                self.assertEqual(shown(call(amid, *handed)), shown(call(alone, *handed)), (call, handed))


class MadeTest(unittest.TestCase):

    def test_lists_are_not_kept(self):
        for made in [pieces.Way, pieces.OddRing, passed.Around, knots.Ring]:
            numbers = [3, 1, 2]
            thing = made(numbers)
            numbers.append(4)
            self.assertEqual(thing.numbers, [3, 1, 2])
            thing.numbers.clear()
            self.assertEqual(numbers, [3, 1, 2, 4])
        for made in [pieces.Border, passed.Parted]:
            names = ["c", "a"]
            thing = made(names)
            names.append("b")
            self.assertEqual(thing.names, ["c", "a"])
            thing.names.clear()
            self.assertEqual(names, ["c", "a", "b"])

    def test_dicts_are_not_kept(self):
        sides = {"a": 0}
        made = pieces.Sides(sides)
        sides["b"] = 1
        self.assertEqual(made.sides, {"a": 0})
        heights, numbers = {"a": 0, "b": 3}, [1]
        made = loads.Least(numbers, 3, heights)
        heights.clear()
        numbers.clear()
        self.assertEqual((made.numbers, made.load, made.heights), ([1], 3, {"a": 0, "b": 3}))

    def test_lists_within_lists_are_not_kept(self):
        numbers, layers = [1], [["a"], ["b"]]
        made = loads.Fewest(numbers, layers)
        numbers.append(2)
        layers[0].append("c")
        layers.append(["d"])
        self.assertEqual((made.numbers, made.layers), ([1], [["a"], ["b"]]))
        ways, wall = [[1], [2]], [1, 2]
        made = loads.Apart(ways, wall)
        ways[0].append(3)
        ways.append([4])
        wall.clear()
        self.assertEqual((made.ways, made.wall), ([[1], [2]], [1, 2]))
        numbers = [1, 2]
        made = loads.Forest(numbers, 9)
        numbers.clear()
        self.assertEqual((made.numbers, made.load), ([1, 2], 9))

    def test_each_is_defined_in_its_file(self):
        for file, names in [
            (pieces, "Way Border Sides OddRing pieces together forest ring_by sides"),
            (passed, "Around Parted must_tie must_ties must_points way_past leaves"
                     " need_points border_by way_by"),
            (knots, "Ring comes knots ring_through starts"),
            (loads, "Forest Least Fewest Apart lightest least_way fewest ways_apart"),
        ]:
            for name in names.split(" "):
                made = getattr(file, name)
                self.assertEqual(made.__module__, file.__name__)
                if isinstance(made, type):
                    self.assertIn("__init__", vars(made))
                    self.assertEqual(made.__bases__, (object,))


if __name__ == "__main__":
    unittest.main()
