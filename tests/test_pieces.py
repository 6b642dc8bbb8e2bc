"""Plain ties: pieces, together, forests, rings, two sides."""

import unittest

from helping import (
    Alike, great_webs, made_webs, other_loads, reached, refused, shown, steps_of, told,
    turned_kinds, walked, web_with,
)
from reachbook.errors import BadForest, NoPoint, NoTie
from reachbook.pieces import (
    Border, OddRing, Sides, Way, forest, pieces, ring_by, sides, together,
)
from reachbook.webs import Web

NO_POINTS = ["x", "", "A", None, True, 1, b"a", ["a"], ("a",), {"a": 1}, {"a"}, Alike()]
NO_NUMBERS = [None, True, False, "1", b"1", 1.0, [1], (1,), {1: 1}, {1}, Alike(), -1, 0, 10 ** 60]


class PiecesTest(unittest.TestCase):

    def test_order(self):
        web = web_with("dbcae", [("a", "b"), ("e", "d", 0, True)])
        self.assertEqual(pieces(web), [["d", "e"], ["b", "a"], ["c"]])

    def test_empty_web(self):
        self.assertEqual(pieces(Web()), [])

    def test_oneway_ties_count_as_plain_ones(self):
        web = web_with("abcd", [("b", "a", 0, True), ("b", "c", 0, True)])
        self.assertEqual(pieces(web), [["a", "b", "c"], ["d"]])

    def test_all_that_hang_together(self):
        for web in made_webs() + great_webs():
            found = pieces(web)
            self.assertEqual(sorted(sum(found, [])), sorted(web.points()))
            for piece in found:
                self.assertEqual(piece, reached(web, piece[0], True))
            firsts = [piece[0] for piece in found]
            self.assertEqual(firsts, sorted(firsts, key=web.points().index))


class TogetherTest(unittest.TestCase):

    def test_a_way(self):
        web = web_with("abcd", [("b", "a"), ("c", "b", 0, True), ("c", "d", 0, True)])
        self.assertEqual(shown(together(web, "a", "d")), shown(Way([1, 2, 3])))
        self.assertEqual(shown(together(web, "d", "a")), shown(Way([3, 2, 1])))

    def test_a_border(self):
        web = web_with("dbcae", [("a", "b"), ("e", "d", 0, True), ("e", "a", 0, True)])
        self.assertEqual(shown(together(web, "a", "c")), shown(Border(["d", "b", "a", "e"])))
        self.assertEqual(shown(together(web, "c", "a")), shown(Border(["c"])))

    def test_from_a_point_to_itself(self):
        web = web_with("ab", [("a", "b"), ("a", "b")])
        self.assertEqual(shown(together(web, "a", "a")), shown(Way([])))
        self.assertEqual(shown(together(web_with("a"), "a", "a")), shown(Way([])))

    def test_all_pairs(self):
        for web in made_webs() + great_webs():
            for one in web.points():
                piece = reached(web, one, True)
                for other in web.points():
                    found = together(web, one, other)
                    if other in piece:
                        self.assertIs(type(found), Way)
                        self.assertEqual(walked(self, web, found.numbers, one, True)[-1], other)
                    else:
                        self.assertEqual(shown(found), shown(Border(piece)))

    def test_no_point(self):
        web = web_with("ab", [("a", "b")])
        for name in NO_POINTS:
            with self.subTest(name=name):
                self.assertIs(refused(self, NoPoint, together, web, name, "a").name, name)
                self.assertIs(refused(self, NoPoint, together, web, "a", name).name, name)
                self.assertIs(refused(self, NoPoint, together, web, name, "y").name, name)
                self.assertIs(refused(self, NoPoint, together, web, name, name).name, name)
        self.assertEqual(refused(self, NoPoint, together, Web(), "a", "b").name, "a")

    def test_hangs_on_no_kinds_and_no_loads(self):
        for web in made_webs():
            for one in web.points():
                for other in web.points():
                    found = shown(together(web, one, other))
                    for alike in [turned_kinds(web, True), turned_kinds(web, False), other_loads(web)]:
                        self.assertEqual(shown(together(alike, one, other)), found)

    def test_hangs_on_no_ends_order(self):
        ties = [("a", "b"), ("b", "d"), ("a", "c"), ("c", "d"), ("a", "b")]
        there = web_with("abcd", ties)
        for turned in range(1, 32):
            back = web_with("abcd", [
                (tie[1], tie[0]) if turned >> at & 1 else tie for at, tie in enumerate(ties)])
            for one in "abcd":
                for other in "abcd":
                    self.assertEqual(
                        shown(together(back, one, other)), shown(together(there, one, other)))


def piece_count(web):
    return len({tuple(reached(web, name, True)) for name in web.points()})


class ForestTest(unittest.TestCase):

    def test_a_forest(self):
        web = web_with("abcde", [("a", "b"), ("d", "e", 0, True), ("b", "c", 0, True)])
        web.drop_tie(1)
        web.put_tie("a", "b")
        self.assertEqual(forest(web), [2, 3, 4])

    def test_empty_webs(self):
        self.assertEqual(forest(Web()), [])
        self.assertEqual(forest(web_with("abc")), [])

    def test_a_tree_on_each_piece(self):
        for web in made_webs() + great_webs():
            found = forest(web)
            self.assertIs(type(found), list)
            self.assertEqual(found, sorted(set(found)))
            self.assertEqual(len(found), len(web.points()) - piece_count(web))
            others = [tie.number for tie in web.ties() if tie.number not in found]
            for name in web.points():
                self.assertEqual(reached(web, name, True, others), reached(web, name, True))

    def test_hangs_on_no_loads(self):
        for web in made_webs():
            self.assertEqual(forest(other_loads(web)), forest(web))


class RingByTest(unittest.TestCase):

    # 1 to 3 are a row, 4 and 5 shut it both ways, 6 stands beside 2, 7 apart.
    TIES = [("a", "b"), ("b", "c", 0, True), ("d", "c"), ("d", "a"), ("a", "d", 0, True),
            ("c", "b"), ("e", "f")]

    def web(self):
        return web_with("abcdefg", self.TIES)

    def test_the_tie_first_then_from_its_head(self):
        self.assertEqual(ring_by(self.web(), [1, 2, 3, 7], 4), [4, 1, 2, 3])
        self.assertEqual(ring_by(self.web(), [1, 2, 3, 7], 5), [5, 3, 2, 1])
        self.assertEqual(ring_by(self.web(), [1, 2, 3, 7], 6), [6, 2])
        self.assertEqual(ring_by(self.web(), [5, 2, 3, 7], 1), [1, 2, 3, 5])

    def test_in_any_order(self):
        for numbers in [[7, 3, 2, 1], [2, 7, 1, 3], [3, 1, 7, 2]]:
            kept = list(numbers)
            self.assertEqual(ring_by(self.web(), numbers, 4), [4, 1, 2, 3])
            self.assertEqual(numbers, kept)

    def test_all_rings(self):
        for web in made_webs() + great_webs():
            ahead = told(web)
            trees = forest(web)
            for tie in web.ties():
                if tie.number not in trees:
                    found = ring_by(web, trees[::-1], tie.number)
                    self.assertEqual(found[0], tie.number)
                    self.assertTrue(set(found[1:]) <= set(trees))
                    self.assertEqual(walked(self, web, found[1:], tie.head, True)[-1], tie.tail)
            self.assertEqual(told(web), ahead)

    def test_no_list(self):
        for numbers in [None, (1, 2, 3, 7), {1, 2, 3, 7}, {1: 1}, 1, True, "1237", Alike()]:
            with self.subTest(numbers=numbers):
                refused(self, BadForest, ring_by, self.web(), numbers, 4)

    def test_things_that_are_no_numbers_of_ties(self):
        for thing in NO_NUMBERS + [8]:
            with self.subTest(thing=thing):
                refused(self, BadForest, ring_by, self.web(), [thing, 2, 3, 7], 4)
                refused(self, BadForest, ring_by, self.web(), [1, 2, 3, 7, thing], 4)
        web = self.web()
        web.drop_tie(3)
        refused(self, BadForest, ring_by, web, [1, 2, 3, 7], 4)

    def test_no_forests(self):
        for numbers in [
            [1, 2, 3, 7, 7], [1, 1, 2, 3, 7], [1, 2, 3, 3], [1, 1, 2, 3],  # twice
            [1, 2, 3], [1, 2, 7], [2, 3, 7], [7], [],  # too few
            [1, 2, 3, 4, 7], [1, 2, 3, 6, 7], [1, 2, 3, 4, 5, 6, 7],  # too many
            [4, 5, 2, 7], [2, 6, 1, 7], [2, 6, 7, 5],  # a ring
        ]:
            with self.subTest(numbers=numbers):
                refused(self, BadForest, ring_by, self.web(), numbers, 4)
                refused(self, BadForest, ring_by, self.web(), numbers, None)

    def test_no_tie(self):
        for number in NO_NUMBERS + [8]:
            with self.subTest(number=number):
                error = refused(self, NoTie, ring_by, self.web(), [1, 2, 3, 7], number)
                self.assertIs(error.number, number)
        for number in [1, 2, 3, 7]:
            error = refused(self, NoTie, ring_by, self.web(), [1, 2, 3, 7], number)
            self.assertEqual(error.number, number)

    def test_without_ties(self):
        self.assertEqual(refused(self, NoTie, ring_by, Web(), [], 1).number, 1)
        refused(self, BadForest, ring_by, Web(), [1], 1)


class SidesTest(unittest.TestCase):

    def need_odd_ring(self, web, numbers):
        self.assertIs(type(numbers), list)
        self.assertEqual(len(numbers) % 2, 1)
        self.assertEqual(len(set(numbers)), len(numbers))
        first = web.tie_of(numbers[0])
        ends = []
        for start, name in [(first.tail, first.head), (first.head, first.tail)]:
            met = [name]
            for number in numbers[1:]:
                behind = [to for at, ahead, to in steps_of(web, True)
                          if at == number and ahead == met[-1]]
                met.extend(behind)
            if len(met) == len(numbers) == len(set(met)) and met[-1] == start:
                ends.append(start)
        self.assertTrue(ends, numbers)

    def test_two_sides(self):
        web = web_with("dbcae", [("a", "b"), ("c", "b", 0, True), ("e", "d", 0, True)])
        found = sides(web)
        self.assertEqual(shown(found), shown(Sides({"d": 0, "b": 0, "c": 1, "a": 1, "e": 1})))

    def test_webs_without_points_or_ties(self):
        self.assertEqual(shown(sides(Web())), shown(Sides({})))
        self.assertEqual(sides(web_with("ba")).sides, {"a": 0, "b": 0})

    def test_side_by_side_is_no_odd_ring(self):
        web = web_with("ab", [("a", "b"), ("b", "a"), ("a", "b", 0, True)])
        self.assertEqual(sides(web).sides, {"a": 0, "b": 1})

    def test_an_odd_ring(self):
        web = web_with("abcdef", [("e", "f"), ("a", "b"), ("b", "c"), ("c", "d"), ("b", "d", 0, True)])
        found = sides(web)
        self.assertIs(type(found), OddRing)
        self.assertEqual(sorted(found.numbers), [3, 4, 5])
        self.need_odd_ring(web, found.numbers)

    def test_odd_and_even_rings(self):
        for many in range(3, 17):
            names = "abcdefghijklmnop"[:many]
            ties = [(names[at], names[(at + 1) % many], 0, at % 3 == 0) for at in range(many)]
            web = web_with(names, ties)
            if many % 2:
                self.need_odd_ring(web, sides(web).numbers)
                self.assertEqual(len(sides(web).numbers), many)
            else:
                self.assertEqual(
                    sides(web).sides, {name: at % 2 for at, name in enumerate(names)})

    def test_all_webs(self):
        kinds = set()
        for web in made_webs() + great_webs():
            found = sides(web)
            kinds.add(type(found))
            if isinstance(found, OddRing):
                self.need_odd_ring(web, found.numbers)
                continue
            self.assertIs(type(found), Sides)
            self.assertEqual(sorted(found.sides), sorted(web.points()))
            for tie in web.ties():
                self.assertEqual({found.sides[tie.tail], found.sides[tie.head]}, {0, 1})
            for name in web.points():
                self.assertEqual(found.sides[reached(web, name, True)[0]], 0)
                self.assertIn(found.sides[name], (0, 1))
        self.assertEqual(kinds, {Sides, OddRing})

    def test_hangs_on_no_loads(self):
        for web in made_webs():
            self.assertEqual(shown(sides(other_loads(web))), shown(sides(web)))


if __name__ == "__main__":
    unittest.main()
