"""Questions: their texts, their rows, and what is refused: [60] to [62]."""

import unittest

from helping import (
    NAMES, OF_NO_NAMES, OF_TWO_NAMES, Alike, all_texts, made_webs, other_loads, outcome,
    refused, told, web_with, widened,
)
from reachbook import asking, knots, loads, passed, pieces
from reachbook.asking import (
    ComesThere, FewestTies, HangsTogether, LeastWay, LightestForest, MustPoints, MustTies,
    PastPoint, Question, RingThrough, TheKnots, TheLeaves, ThePieces, TheStarts, TwoSides,
    WaysApart, question_of,
)
from reachbook.errors import BadText, NoPoint, SamePoint
from reachbook.pieces import Border
from reachbook.webs import MOST, Web, web_lines, web_of

KINDS = {
    "together": HangsTogether, "comes": ComesThere, "must": MustTies, "points": MustPoints,
    "past": PastPoint, "ring": RingThrough, "least": LeastWay, "fewest": FewestTies,
    "apart": WaysApart, "pieces": ThePieces, "knots": TheKnots, "sides": TwoSides,
    "lightest": LightestForest, "starts": TheStarts, "leaves": TheLeaves,
}
CALLS = {
    "together": pieces.together, "comes": knots.comes, "must": passed.must_ties,
    "points": passed.must_points, "past": passed.way_past, "ring": knots.ring_through,
    "least": loads.least_way, "fewest": loads.fewest, "apart": loads.ways_apart,
    "pieces": pieces.pieces, "knots": knots.knots, "sides": pieces.sides,
    "lightest": loads.lightest, "starts": knots.starts, "leaves": passed.leaves,
}
NAMES_BEHIND = {word: 2 for word in OF_TWO_NAMES} | {word: 0 for word in OF_NO_NAMES} | {"past": 3}
NO_TEXTS = [None, True, False, 0, 7, b"pieces", ["pieces"], ("pieces",), {"pieces": 1},
            {"pieces"}, ThePieces(), Alike(), object()]


def plain_web():
    """A row a - b - c - d with a way around b - c, and e apart from them; f with e."""
    return web_with("abcdef", [
        ("a", "b", 5), ("b", "c", 2), ("c", "b", 4, True), ("c", "d", MOST), ("f", "e", 0, True)])


def ring_web():
    """Three points in an odd ring of one-way ties, and one that leads to it."""
    return web_with("dcba", [("a", "b", 1, True), ("b", "c", 2, True), ("c", "a", 3, True), ("d", "a", 4, True)])


def written(word, found, web):
    """The rows of what a function told, written here once more."""
    def row(ahead, things):
        return " ".join([ahead] + [str(thing) for thing in things])

    if isinstance(found, Border):
        return [row("border", found.names)]
    if word in ("together", "comes", "past"):
        return [row("way", found.numbers)]
    if word == "least":
        heights = [f"{name}={found.heights[name]}" for name in web.points() if name in found.heights]
        return [row("way", found.numbers), f"load {found.load}", row("heights", heights)]
    if word == "fewest":
        return [row("way", found.numbers)] + [row("layer", layer) for layer in found.layers]
    if word == "apart":
        return [row("way", way) for way in found.ways] + [row("wall", found.wall)]
    if word == "sides" and isinstance(found, pieces.Sides):
        return [row(ahead, [name for name in web.points() if found.sides[name] == side])
                for ahead, side in [("first", 0), ("second", 1)]]
    if word == "lightest":
        return [row("ties", found.numbers), f"load {found.load}"]
    if word in ("pieces", "knots", "leaves"):
        ahead = "knot" if word == "knots" else "piece"
        return [row(ahead, names) for names in found]
    ahead = {"must": "ties", "points": "points", "ring": "ring", "sides": "ring", "starts": "starts"}[word]
    return [row(ahead, found if isinstance(found, list) else found.numbers)]


class KindsTest(unittest.TestCase):

    def test_each_by_its_text_and_by_its_class(self):
        for word, kind in KINDS.items():
            names = ["x", "abcdefghijkl", "b"][:NAMES_BEHIND[word]]
            text = " ".join([word] + names)
            for question in [question_of(text), kind(*names)]:
                with self.subTest(text=text):
                    self.assertIs(type(question), kind)
                    self.assertEqual(question.text(), text)
                    self.assertIs(type(question.text()), str)
                    self.assertEqual(question.matter(), names)
                    self.assertIs(question.has_loads(), word in ("least", "lightest"))

    def test_names_stand_in_their_order(self):
        for word, many in NAMES_BEHIND.items():
            for names in [["b", "a", "c"], ["a", "a", "a"], ["a", "b", "a"]]:
                question = question_of(" ".join([word] + names[:many]))
                self.assertEqual(question.matter(), names[:many])

    def test_names_are_the_askers_own(self):
        for question in [HangsTogether("a", "b"), PastPoint("a", "b", "c"), ThePieces()]:
            ahead = question.matter()
            question.matter().append("x")
            self.assertEqual(question.matter(), ahead)
            self.assertNotIn("x", question.text())

    def test_the_interface(self):
        for kind in [Question] + list(KINDS.values()):
            self.assertEqual(kind.__module__, "reachbook.asking")
            self.assertTrue(issubclass(kind, Question))
        self.assertEqual(question_of.__module__, "reachbook.asking")
        for name in ["text", "matter", "has_loads", "told"]:
            self.assertIn(name, vars(Question))
        for kind in KINDS.values():
            self.assertIn("told", vars(kind))

    def test_the_words_are_all_that_there_are(self):
        self.assertEqual(asking.NAMES_BEHIND, NAMES_BEHIND)


class RowsTest(unittest.TestCase):

    def need(self, web, text, rows):
        """The rows of a question, by its text and by its class."""
        with self.subTest(text=text):
            word, *names = text.split(" ")
            for question in [question_of(text), KINDS[word](*names)]:
                found = question.told(web)
                self.assertIs(type(found), list)
                self.assertEqual(found, rows)

    def test_together(self):
        self.need(plain_web(), "together a d", ["way 1 2 4"])
        self.need(plain_web(), "together d a", ["way 4 2 1"])
        self.need(plain_web(), "together e f", ["way 5"])
        self.need(plain_web(), "together a a", ["way"])
        self.need(plain_web(), "together d e", ["border a b c d"])

    def test_comes(self):
        self.need(plain_web(), "comes a d", ["way 1 2 4"])
        self.need(plain_web(), "comes f e", ["way 5"])
        self.need(plain_web(), "comes e e", ["way"])
        self.need(plain_web(), "comes e f", ["border e"])
        self.need(ring_web(), "comes a d", ["border c b a"])

    def test_must(self):
        self.need(plain_web(), "must d a", ["ties 1 4"])
        self.need(plain_web(), "must b c", ["ties"])
        self.need(plain_web(), "must b f", ["border a b c d"])

    def test_points(self):
        self.need(plain_web(), "points d a", ["points b c"])
        self.need(plain_web(), "points a b", ["points"])
        self.need(plain_web(), "points f b", ["border e f"])

    def test_past(self):
        self.need(ring_web(), "past a b c", ["way 1"])
        self.need(ring_web(), "past a c b", ["way 3"])
        self.need(plain_web(), "past d a b", ["border c d"])
        self.need(plain_web(), "past a e b", ["border a"])

    def test_ring(self):
        self.need(ring_web(), "ring a c", ["ring 1 2 3"])
        self.need(plain_web(), "ring a b", ["ring 1 1"])
        self.need(ring_web(), "ring a d", ["border c b a"])
        self.need(ring_web(), "ring d a", ["border c b a"])

    def test_least(self):
        self.need(plain_web(), "least a d", [
            "way 1 2 4", f"load {MOST + 7}", f"heights a=0 b=5 c=7 d={MOST + 7}"])
        self.need(ring_web(), "least d b", ["way 4 1", "load 5", "heights d=0 c=7 b=5 a=4"])
        self.need(plain_web(), "least e e", ["way", "load 0", "heights e=0"])
        self.need(plain_web(), "least f e", ["way 5", "load 0", "heights e=0 f=0"])
        self.need(plain_web(), "least e f", ["border e"])

    def test_fewest(self):
        self.need(ring_web(), "fewest d b", ["way 4 1", "layer d", "layer a", "layer b", "layer c"])
        self.need(web_with("cab", [("a", "b"), ("a", "c")]), "fewest a b", ["way 1", "layer a", "layer c b"])
        self.need(plain_web(), "fewest e e", ["way", "layer e"])
        self.need(plain_web(), "fewest e f", ["border e"])

    def test_apart(self):
        self.need(plain_web(), "apart f e", ["way 5", "wall 5"])
        self.need(web_with("ab", [("a", "b"), ("b", "a")]), "apart b a", ["way 1", "way 2", "wall 1 2"])
        self.need(plain_web(), "apart a f", ["wall"])

    def test_pieces(self):
        self.need(plain_web(), "pieces", ["piece a b c d", "piece e f"])
        self.need(Web(), "pieces", [])

    def test_knots(self):
        self.need(plain_web(), "knots", ["knot a b c d", "knot f", "knot e"])
        self.need(ring_web(), "knots", ["knot d", "knot c b a"])
        self.need(Web(), "knots", [])

    def test_sides(self):
        self.need(plain_web(), "sides", ["first a c e", "second b d f"])
        self.need(web_with("ba"), "sides", ["first b a", "second"])
        self.need(Web(), "sides", ["first", "second"])
        self.need(web_with("abc", [("a", "b"), ("b", "c"), ("c", "a")]), "sides", ["ring 3 1 2"])

    def test_lightest(self):
        self.need(plain_web(), "lightest", ["ties 1 2 4 5", f"load {MOST + 7}"])
        self.need(ring_web(), "lightest", ["ties 1 2 4", "load 7"])
        self.need(Web(), "lightest", ["ties", "load 0"])

    def test_starts(self):
        self.need(plain_web(), "starts", ["starts a f"])
        self.need(Web(), "starts", ["starts"])

    def test_leaves(self):
        self.need(plain_web(), "leaves", ["piece a", "piece b c", "piece d", "piece e", "piece f"])
        self.need(ring_web(), "leaves", ["piece d", "piece c b a"])
        self.need(Web(), "leaves", [])

    def test_all_webs(self):
        for web in made_webs(25):
            for text in all_texts(web.points()[:4]):
                word, *names = text.split(" ")
                if len(set(names)) == len(names):
                    found = CALLS[word](web, *names)
                    self.assertEqual(question_of(text).told(web), written(word, found, web), text)

    def test_long_numbers(self):
        lines = ["point a", "point b", f"tie {MOST} a b {MOST}", f"given {MOST}"]
        self.need(web_of(lines), "lightest", [f"ties {MOST}", f"load {MOST}"])
        ties = [(NAMES[at], NAMES[at + 1], MOST) for at in range(15)]
        rows = question_of("least a p").told(web_with(NAMES, ties))
        self.assertEqual(rows[1], "load 15" + "0" * 60)
        self.assertTrue(rows[2].endswith(" p=15" + "0" * 60))


class BadTextsTest(unittest.TestCase):

    def bad(self, text, place):
        with self.subTest(text=text):
            error = refused(self, BadText, question_of, text)
            self.assertEqual(error.place, place)
            self.assertIs(type(error.place), int)

    def test_no_texts(self):
        for thing in NO_TEXTS:
            self.bad(thing, 0)

    def test_first_words_that_ask_nothing(self):
        for text in ["", " ", "  ", "x", "piece", "Pieces", "PIECES", "piecess", "pieces\n",
                     "together\ta b", " pieces", " together a b", "a together b", "A", "7",
                     "together,a b", "state 0", "undone", "point a", "x a b", "a", "text"]:
            self.bad(text, 0)

    def test_names_lack(self):
        for word, many in NAMES_BEHIND.items():
            for given in range(many):
                text = " ".join([word] + ["a", "bc"][:given])
                self.bad(text, len(text))
        self.bad("together", 8)
        self.bad("together a", 10)
        self.bad("past a bc", 9)

    def test_a_word_too_many(self):
        for word, many in NAMES_BEHIND.items():
            text = " ".join([word] + ["a", "bc", "d"][:many])
            for behind in ["x", "X", "", " ", " x", "7", "x y"]:
                self.bad(f"{text} {behind}", len(text) + 1)
        self.bad("pieces ", 7)
        self.bad("together a b ", 13)
        self.bad("together a b c", 13)

    def test_words_that_are_no_names(self):
        for bad in ["A", "aB", "7", "abcdefghijklm", "a\n", "a\tb", "-", "a,b", "\u00e9"]:
            self.bad(f"together {bad}", 9)
            self.bad(f"together {bad} a", 9)
            self.bad(f"together {bad} a b", 9)
            self.bad(f"together {bad} {bad}", 9)
            self.bad(f"together abc {bad}", 13)
            self.bad(f"together abc {bad} x", 13)
            self.bad(f"past a bc {bad}", 10)

    def test_empty_words(self):
        self.bad("together ", 9)
        self.bad("together  ", 9)
        self.bad("together  a b", 9)
        self.bad("together a ", 11)
        self.bad("together a  b", 11)
        self.bad("together a b  ", 13)
        self.bad("past a b ", 9)

    def test_names_of_no_point_are_names(self):
        self.assertEqual(question_of("together zz zz").matter(), ["zz", "zz"])


class RefusalsTest(unittest.TestCase):

    def test_no_point_by_place(self):
        web = plain_web()
        for word, many in NAMES_BEHIND.items():
            for place in range(many):
                names = ["a", "b", "c"][:many]
                names[place] = "x"
                error = refused(self, NoPoint, KINDS[word](*names).told, web)
                self.assertEqual(error.name, "x")
                names = ["a", "b", "c"][:place] + ["x", "y", "z"][:many - place]
                error = refused(self, NoPoint, KINDS[word](*names).told, web)
                self.assertEqual(error.name, "x")
        self.assertEqual(refused(self, NoPoint, question_of("comes a b").told, Web()).name, "a")

    def test_no_point_ahead_of_same_point(self):
        for word, many in NAMES_BEHIND.items():
            if many:
                error = refused(self, NoPoint, question_of(" ".join([word] + ["x"] * many)).told, plain_web())
                self.assertEqual(error.name, "x")
        for text in ["past a a x", "past a x a", "past x a a"]:
            self.assertEqual(refused(self, NoPoint, question_of(text).told, plain_web()).name, "x")

    def test_same_point(self):
        for text in ["must a a", "points a a", "ring a a", "apart a a",
                     "past a a b", "past a b a", "past b a a", "past a a a"]:
            with self.subTest(text=text):
                refused(self, SamePoint, question_of(text).told, plain_web())
        for text in ["together a a", "comes a a", "least a a", "fewest a a"]:
            self.assertEqual(question_of(text).told(plain_web())[0], "way")

    def test_as_the_functions_refuse(self):
        for web in made_webs(8):
            for text in all_texts(web.points()[:3] + ["zz"]):
                word, *names = text.split(" ")
                found = outcome(CALLS[word], web, *names)
                if found[0] in ("NoPoint", "SamePoint"):
                    self.assertEqual(outcome(question_of(text).told, web), found)


class AskedTest(unittest.TestCase):

    def test_the_web_is_as_it_stood_and_rows_are_the_askers_own(self):
        for web in [plain_web(), ring_web(), Web()]:
            ahead = told(web)
            for text in all_texts(web.points()[:3]):
                question = question_of(text)
                found = outcome(question.told, web)
                self.assertEqual(told(web), ahead)
                if found[0] == "list":
                    question.told(web).append("x")
                    question.told(web).clear()
                    self.assertEqual(outcome(question.told, web), found)
                    self.assertEqual(outcome(question_of(text).told, web_of(web_lines(web))), found)

    def test_one_question_of_many_webs(self):
        question = question_of("comes a b")
        self.assertEqual(question.told(ring_web()), ["way 1"])
        self.assertEqual(question.told(web_with("ab")), ["border a"])
        self.assertEqual(question.told(ring_web()), ["way 1"])

    def test_loads_tell_of_two_questions(self):
        moved = set()
        for web in made_webs(20):
            for text in all_texts(web.points()[:3]):
                question = question_of(text)
                if outcome(question.told, web) != outcome(question.told, other_loads(web)):
                    moved.add(text.split(" ")[0])
        self.assertEqual(moved, {"least", "lightest"})

    def test_other_pieces_move_nothing(self):
        for web in made_webs(15):
            alone = widened(web, False)
            amid = widened(web)
            for text in all_texts(web.points()[:3]):
                question = question_of(text)
                if question.matter():
                    self.assertEqual(outcome(question.told, amid), outcome(question.told, alone), text)


if __name__ == "__main__":
    unittest.main()
