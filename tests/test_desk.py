"""A desk: each line that is said, and its answer: [90]."""

import unittest

from helping import (
    OF_NO_NAMES, OF_TWO_NAMES, Alike, Chance, made_deed, made_text,
)
from reachbook import desk
from reachbook.asking import question_of
from reachbook.books import Book, book_of
from reachbook.desk import Desk
from reachbook.errors import BadBundle, BadText, NoDeed, NoPoint, NoState, SamePoint
from reachbook.webs import MOST, Web

NO_TEXTS = [None, True, False, 0, 7, b"states", ["states"], ("states",), {}, {"states"}, Alike(), object()]
LONG = "9" * 62
# Words of a line that are no numbers by [1].
NO_NUMBERS = ["x", "-1", "+1", "01", "00", "1.0", "1_0", "0x1", "a1", "1a", "True", "1\n", "1\t", LONG]


def spoken(lines):
    """A desk that some lines were said to; each was done or kept."""
    desk_of_lines = Desk()
    for line in lines:
        answer = desk_of_lines.say(line)
        if answer == "no line" or answer.startswith("refused"):
            raise AssertionError(line)
    return desk_of_lines


SMALL = ["point a", "point b", "point c", "tie a b 1", "way b c 2"]


class DeskTest(unittest.TestCase):

    def dialogue(self, rows, ahead=()):
        """Lines and their answers, said to a desk behind some lines ahead."""
        answering = spoken(ahead)
        for line, answer in rows:
            with self.subTest(line=line):
                found = answering.say(line)
                self.assertIs(type(found), str)
                self.assertEqual(found, answer)
        return answering

    def alone(self, line, answer, ahead=SMALL):
        self.dialogue([(line, answer)], ahead)

    def no_line(self, line, ahead=SMALL):
        """No line, also while a bundle is open; and nothing comes of it."""
        for behind in [[], ["begin"], ["begin", "point z"]]:
            answering = spoken(list(ahead) + behind)
            lines = answering.say("lines")
            with self.subTest(line=line):
                self.assertEqual(answering.say(line), "no line")
            self.assertEqual(answering.say("lines"), lines)
            self.assertEqual(answering.say("end"), f"state {len(ahead) + 1}" if behind else "no line")


class InterfaceTest(unittest.TestCase):

    def test_the_interface(self):
        self.assertEqual(Desk.__module__, "reachbook.desk")
        self.assertIn("say", vars(Desk))
        self.assertEqual(desk.DEEDS["part"], (2, 0, None))


class DeedsTest(DeskTest):

    def test_a_bundle_of_its_own(self):
        self.dialogue([
            ("point a", "state 1"), ("point b", "state 2"), ("tie a b", "state 3"),
            ("tie b a 7", "state 4"), ("way a b", "state 5"), ("way b a 9", "state 6"),
            ("untie 1", "state 7"), ("load 2 8", "state 8"), ("part a x 2 3", "state 9"),
            ("rename a y", "state 10"), ("join x y", "state 11"), ("point z", "state 12"),
            ("gone z", "state 13"), ("part b w", "state 14"),
            ("lines", "\n".join(WORDED)),
        ])

    def test_what_each_does(self):
        for line, deed in [
                ("point d", ("point", "d")), ("rename a x", ("rename", "a", "x")),
                ("tie a c", ("tie", "a", "c")), ("tie a c 0", ("tie", "a", "c", 0)),
                (f"tie a c {MOST}", ("tie", "a", "c", MOST)), ("way a c", ("tie", "a", "c", 0, True)),
                ("way a c 3", ("tie", "a", "c", 3, True)), ("untie 2", ("untie", 2)),
                ("load 1 5", ("load", 1, 5)), ("join a c", ("join", "a", "c")),
                ("part b d", ("part", "b", "d", [])), ("part b d 2", ("part", "b", "d", [2])),
                ("part b d 2 1", ("part", "b", "d", [2, 1]))]:
            answering = spoken(SMALL)
            book = book_of(answering.say("lines").split("\n"))
            book.do([deed])
            self.assertEqual(answering.say(line), "state 6")
            self.assertEqual(answering.say("lines").split("\n"), book.lines(), line)

    def test_refused(self):
        for line, word in [
                ("point A", "name"), ("point 7", "name"), ("point a\n", "name"), ("point \t", "name"),
                ("rename a A", "name"), ("part a x1", "name"), ("point abcdefghijklm", "name"),
                ("point a", "twice"), ("rename a a", "twice"), ("part a b", "twice"), ("part a b 9", "twice"),
                ("gone z", "point"), ("gone A", "point"), ("gone 7", "point"), ("rename z A", "point"),
                ("tie a z", "point"), ("way z a", "point"), ("join a z", "point"), ("part z y", "point"),
                ("tie a a", "tie"), ("way b b 5", "tie"),
                (f"tie a b {MOST + 1}", "load"), ("tie a b " + "9" * 61, "load"), (f"load 1 {MOST + 1}", "load"),
                ("untie 3", "number"), ("untie 0", "number"), ("untie " + "9" * 61, "number"), ("load 3 1", "number"),
                ("part a x 2", "number"), ("part a x 1 1", "number"), ("gone a", "ties"), ("join a a", "same")]:
            self.dialogue([("lines", spoken(SMALL).say("lines")), (line, "refused 0 " + word),
                           ("lines", spoken(SMALL).say("lines")), ("states", "state 5 of 6")], SMALL)
        self.alone("point q", "refused 0 many", ["point " + name for name in "abcdefghijklmnop"])
        self.alone("tie a b", "refused 0 many", SMALL + ["begin"] + ["tie a b"] * 46 + ["end"])

    def test_a_refused_deed_forgets_nothing(self):
        self.dialogue([("undo", "state 4"), ("point A", "refused 0 name"), ("redo", "state 5")], SMALL)

    def test_too_many_words_or_too_few(self):
        for line in ["point", "point x y", "point x 1", "gone", "gone a b", "gone a 1",
                     "rename", "rename a", "rename a x y", "rename a x 1",
                     "tie", "tie a", "tie a b 1 2", "tie a b 1 True", "way", "way a", "way a b 1 2",
                     "untie", "untie 1 2", "load", "load 1", "load 1 2 3",
                     "join", "join a", "join a b c", "join a b 1", "part", "part a"]:
            self.no_line(line)

    def test_numbers_that_are_none(self):
        for word in NO_NUMBERS:
            for line in ["tie a b {}", "way a b {}", "untie {}", "load {} 1", "load 1 {}", "part b x {}",
                         "part b x 1 {}", "part b x {} 1", "tie z A {}"]:
                self.no_line(line.format(word))

    def test_no_lines(self):
        for line in NO_TEXTS + ["", " ", "x", "Point a", "POINT a", "points a", "state", "state 1", "at 0", "kept",
                                "pieces", "comes a b", "deed", " point x", "point x ", "point  x", "point\tx",
                                "rename a  x", "put_point x", "0", "no line", "tie a b ", "part b x  1",
                                "States", "line", "do", "lines\n", "undone", "given 0", "ask", "asks", "asks pieces",
                                "ASK pieces", "ask\tpieces", " ask pieces"]:
            self.no_line(line)

    def test_part_with_many_numbers(self):
        numbers = " ".join(str(number) for number in range(1, 90))
        self.alone("part b x " + numbers, "refused 0 number")


WORDED = """state 0
given 0
state 1 0
point a
given 0
state 2 1
point a
point b
given 0
state 3 2
point a
point b
tie 1 a b 0
given 1
state 4 3
point a
point b
tie 1 a b 0
tie 2 b a 7
given 2
state 5 4
point a
point b
tie 1 a b 0
tie 2 b a 7
way 3 a b 0
given 3
state 6 5
point a
point b
tie 1 a b 0
tie 2 b a 7
way 3 a b 0
way 4 b a 9
given 4
state 7 6
point a
point b
tie 2 b a 7
way 3 a b 0
way 4 b a 9
given 4
state 8 7
point a
point b
tie 2 b a 8
way 3 a b 0
way 4 b a 9
given 4
state 9 8
point a
point b
point x
tie 2 b x 8
way 3 x b 0
way 4 b a 9
given 4
state 10 9
point y
point b
point x
tie 2 b x 8
way 3 x b 0
way 4 b y 9
given 4
state 11 10
point b
point x
tie 2 b x 8
way 3 x b 0
way 4 b x 9
given 4
state 12 11
point b
point x
point z
tie 2 b x 8
way 3 x b 0
way 4 b x 9
given 4
state 13 12
point b
point x
tie 2 b x 8
way 3 x b 0
way 4 b x 9
given 4
state 14 13
point b
point x
point w
tie 2 b x 8
way 3 x b 0
way 4 b x 9
given 4
at 14
undone""".split("\n")


class BundlesTest(DeskTest):

    def test_gathered_and_done(self):
        self.dialogue([
            ("begin", "begun"), ("point a", "kept"), ("point b", "kept"), ("way a b 3", "kept"),
            ("states", "state 0 of 1"), ("end", "state 1"), ("states", "state 1 of 2"),
            ("ask comes a b", "way 1"), ("point c", "state 2")])

    def test_an_empty_bundle(self):
        self.dialogue([("begin", "begun"), ("end", "state 1"), ("states", "state 1 of 2"), ("begin", "begun")])

    def test_dropped(self):
        self.dialogue([
            ("begin", "begun"), ("point a", "kept"), ("drop", "dropped"), ("states", "state 0 of 1"),
            ("end", "no line"), ("drop", "no line"), ("begin", "begun"), ("end", "state 1"),
            ("lines", "state 0\ngiven 0\nstate 1 0\ngiven 0\nat 1\nundone")])

    def test_refused_at_its_place(self):
        self.dialogue([
            ("begin", "begun"), ("point a", "kept"), ("point A", "kept"), ("point b", "kept"),
            ("end", "refused 1 name"), ("states", "state 0 of 1"), ("end", "no line"), ("drop", "no line"),
            ("begin", "begun"), ("point a", "kept"), ("tie a z", "kept"), ("end", "refused 1 point"),
            ("point a", "state 1")])

    def test_every_deed_is_kept_until_the_end(self):
        for line in ["point A", "gone z", "rename z A", "tie z z", "way z z 5", "untie 77", "load 77 0",
                     "join z z", "part z A 1 1", "tie a b " + "9" * 61, "untie 0"]:
            self.alone(line, "kept", ["begin"])

    def test_begin_end_and_drop_at_the_wrong_time(self):
        self.dialogue([("end", "no line"), ("drop", "no line"), ("begin", "begun"), ("begin", "no line"),
                       ("point a", "kept"), ("begin", "no line"), ("end", "state 1")])

    def test_words_too_many(self):
        for line in ["begin x", "begin begin", "end x", "end 1", "drop x", "begin ", " end", "drop  "]:
            self.no_line(line)

    def test_other_lines_while_a_bundle_is_open(self):
        self.dialogue([
            ("begin", "begun"), ("point x", "kept"), ("undo", "state 4"), ("undo", "state 3"), ("redo", "state 4"),
            ("ask pieces", "piece a b\npiece c"), ("states", "state 4 of 6"), ("redo", "state 5"), ("redo", "no deed"),
            ("ask comes a x", "no point x"), ("ask pieces at 0", "nothing"), ("undo", "state 4"),
            ("nothing", "no line"), ("end", "state 6"), ("states", "state 6 of 7"), ("redo", "no deed"),
            ("ask pieces", "piece a b\npiece c\npiece x"), ("undo", "state 4"), ("redo", "state 6")], SMALL)

    def test_lines_while_a_bundle_is_open(self):
        lines = spoken(SMALL).say("lines")
        self.dialogue([("begin", "begun"), ("point x", "kept"), ("lines", lines), ("drop", "dropped"),
                       ("lines", lines)], SMALL)

    def test_a_bundle_is_of_the_state_that_stands_at_its_end(self):
        self.dialogue([
            ("begin", "begun"), ("untie 2", "kept"), ("undo", "state 4"), ("end", "refused 0 number"),
            ("redo", "state 5"), ("untie 2", "state 6")], SMALL)


class OrdersTest(DeskTest):

    def test_undo_and_redo(self):
        self.dialogue([
            ("undo", "no deed"), ("redo", "no deed"), ("point a", "state 1"), ("point b", "state 2"),
            ("redo", "no deed"), ("undo", "state 1"), ("undo", "state 0"), ("undo", "no deed"),
            ("redo", "state 1"), ("redo", "state 2"), ("redo", "no deed"), ("undo", "state 1"),
            ("point c", "state 3"), ("redo", "no deed"), ("undo", "state 1"), ("redo", "state 3")])

    def test_states(self):
        self.dialogue([
            ("states", "state 0 of 1"), ("point a", "state 1"), ("states", "state 1 of 2"), ("undo", "state 0"),
            ("states", "state 0 of 2"), ("point b", "state 2"), ("states", "state 2 of 3")])

    def test_lines(self):
        self.dialogue([
            ("lines", "state 0\ngiven 0\nat 0\nundone"), ("point a", "state 1"), ("undo", "state 0"),
            ("lines", "state 0\ngiven 0\nstate 1 0\npoint a\ngiven 0\nat 0\nundone 1")])

    def test_words_too_many(self):
        for word in ["undo", "redo", "states", "lines"]:
            for line in [word + " x", word + " 1", word + " ", " " + word, f"{word} {word}", word + "\n"]:
                self.no_line(line)

    def test_desks_of_their_own(self):
        first, second = Desk(), Desk()
        first.say("begin")
        self.assertEqual(second.say("point a"), "state 1")
        self.assertEqual(first.say("states"), "state 0 of 1")
        self.assertEqual(first.say("point a"), "kept")


class AskTest(DeskTest):

    def test_rows(self):
        for line, answer in [
                ("ask comes a c", "way 1 2"), ("ask comes c a", "border c"), ("ask together a a", "way"),
                ("ask pieces", "piece a b c"), ("ask least a c", "way 1 2\nload 3\nheights a=0 b=1 c=3"),
                ("ask fewest a c", "way 1 2\nlayer a\nlayer b\nlayer c"), ("ask must a c", "ties 1 2"),
                ("ask points a c", "points b"), ("ask past a c b", "border a"), ("ask ring a b", "ring 1 1"),
                ("ask apart b c", "way 2\nwall 2"), ("ask knots", "knot a b\nknot c"),
                ("ask sides", "first a c\nsecond b"), ("ask lightest", "ties 1 2\nload 3"),
                ("ask starts", "starts a"), ("ask leaves", "piece a\npiece b\npiece c")]:
            self.alone(line, answer)

    def test_nothing(self):
        for word in ["pieces", "knots", "leaves"]:
            self.alone("ask " + word, "nothing", [])
            self.alone(f"ask {word} at 0", "nothing")
            self.alone(f"ask {word} at 1", f"{'knot' if word == 'knots' else 'piece'} a")
        self.alone("ask starts", "starts", [])

    def test_of_a_state(self):
        for line, answer in [
                ("ask comes a c at 5", "way 1 2"), ("ask comes a c at 4", "border a b"),
                ("ask comes a c at 3", "border a"), ("ask pieces at 2", "piece a\npiece b"),
                ("ask comes a b at 4", "way 1"), ("ask comes a b at 0", "no point a"),
                ("ask comes a b at 1", "no point b"), ("ask must a a at 0", "no point a"),
                ("ask must a a at 1", "same point"), ("ask sides at 0", "first\nsecond")]:
            self.alone(line, answer)
            self.alone(line, answer, SMALL + ["begin", "untie 1"])
            self.dialogue([(f"point {name}", f"state {at}") for at, name in [(6, "x"), (7, "y")]]
                          + [(line, answer)], SMALL)

    def test_the_one_that_stands_when_it_is_undone(self):
        self.dialogue([("undo", "state 4"), ("ask comes a c", "border a b"), ("ask comes a c at 5", "way 1 2"),
                       ("ask comes a c at 4", "border a b")], SMALL)

    def test_bad_texts(self):
        for asked, place in [
                ("", 0), (" ", 0), ("x", 0), (" pieces", 0), ("pieces ", 7), ("pieces x", 7), ("comes", 5),
                ("comes ", 6), ("comes a", 7), ("comes a A", 8), ("comes a b ", 10), ("comes a b c", 10),
                ("comes  a b", 6), ("past a b", 8), ("lines", 0), ("ask pieces", 0), ("point a", 0)]:
            self.alone("ask " + asked, f"bad text {place}")
            self.alone(f"ask {asked} at 0", f"bad text {place}")
            self.alone(f"ask {asked} at 77", f"bad text {place}")

    def test_at(self):
        for line, answer in [
                ("ask at 0", "bad text 0"), ("ask  at 0", "bad text 0"), ("ask at", "bad text 0"),
                ("ask pieces at", "bad text 7"), ("ask pieces at ", "bad text 7"), ("ask pieces at  0", "bad text 7"),
                ("ask pieces  at 0", "bad text 7"), ("ask pieces at 0 ", "bad text 7"), ("ask pieces at x", "bad text 7"),
                ("ask pieces at 0 x", "bad text 7"), ("ask pieces at0", "bad text 7"), ("ask pieces At 0", "bad text 7"),
                ("ask comes at a", "no point at"), ("ask comes at at", "no point at"), ("ask comes a at", "no point at"),
                ("ask comes at 0", "bad text 5"), ("ask comes a at 0", "bad text 7"),
                ("ask comes at at at 5", "no point at"), ("ask comes a at at 5", "no point at"),
                ("ask past a at b", "no point at"), ("ask past a at b at 5", "no point at"),
                ("ask pieces at 0 at 5", "bad text 7"), ("ask pieces at 0 at x", "bad text 7"),
                ("ask pieces at x at 0", "bad text 7"), ("ask pieces at at 0", "bad text 7"),
                ("ask pieces at  at 0", "bad text 7"), ("ask x at 0 at 0", "bad text 0"),
                ("ask pieces at 9", "no state"), ("ask pieces at 6", "no state"), ("ask pieces at " + "9" * 61, "no state"),
                ("ask pieces at " + LONG, "bad text 7")]:
            self.alone(line, answer)
        for word in NO_NUMBERS:
            self.alone(f"ask pieces at {word}", "bad text 7")
            self.alone(f"ask comes a b at {word}", "bad text 10")
            self.alone(f"ask past a at {word}", "bad text 10" if word != "x" else "no point at")

    def test_a_point_called_at(self):
        ahead = ["point at", "point a", "tie at a"]
        self.alone("ask comes at a", "way 1", ahead)
        self.alone("ask comes a at", "way 1", ahead)
        self.alone("ask comes a at at 3", "way 1", ahead)
        self.alone("ask comes a at at 2", "border a", ahead)
        self.alone("ask comes at at at 1", "way", ahead)
        self.alone("ask past a at at at 3", "same point", ahead)

    def test_the_first_refusal_that_is_due(self):
        for line, answer in [
                ("ask comes z Z at 99", "bad text 8"), ("ask must z z at 99", "no state"), ("ask must a a at 99", "no state"),
                ("ask must z z", "no point z"), ("ask must z y", "no point z"), ("ask must a z", "no point z"),
                ("ask past a a z", "no point z"), ("ask past a a b", "same point"), ("ask must a a", "same point"),
                ("ask comes longername a", "no point longername")]:
            self.alone(line, answer)

    def test_asking_changes_nothing(self):
        lines = spoken(SMALL).say("lines")
        answering = spoken(SMALL)
        for line in ["ask pieces", "ask comes a z", "ask x", "ask pieces at 9", "ask ", "ask"]:
            answering.say(line)
            self.assertEqual(answering.say("lines"), lines)
        self.assertEqual(answering.say("undo"), "state 4")


def line_of(deed):
    """The line that says a deed."""
    word, *rest = deed
    if word == "part":
        rest = rest[:-1] + rest[-1]
    if word == "tie" and len(rest) == 4:
        if rest.pop():
            word = "way"
    return " ".join([word] + [str(part) for part in rest])


class Model:
    """What a desk answers, told by a book and a bundle."""

    def __init__(self):
        self.book = Book(Web())
        self.bundle = None

    def do(self, rows):
        try:
            return f"state {self.book.do(rows)}"
        except BadBundle as error:
            return f"refused {error.place} {error.word}"

    def deed(self, deed):
        if self.bundle is None:
            return self.do([deed])
        self.bundle.append(deed)
        return "kept"

    def order(self, word):
        if word in ("undo", "redo"):
            try:
                getattr(self.book, word)()
            except NoDeed:
                return "no deed"
            return f"state {self.book.here()}"
        if word == "begin" and self.bundle is None:
            self.bundle = []
            return "begun"
        if word in ("end", "drop") and self.bundle is not None:
            rows, self.bundle = self.bundle, None
            return self.do(rows) if word == "end" else "dropped"
        return "no line"

    def ask(self, text, state):
        try:
            question = question_of(text)
            return "\n".join(question.told(self.book.web_at(state))) or "nothing"
        except BadText as error:
            return f"bad text {error.place}"
        except NoState:
            return "no state"
        except NoPoint as error:
            return f"no point {error.name}"
        except SamePoint:
            return "same point"


class AllTest(unittest.TestCase):

    def test_by_a_model(self):
        for seed in range(80):
            chance = Chance(seed + 5000)
            answering, model = Desk(), Model()
            while model.book.many_states() < 40:
                standing = model.book.web_at()
                kind = chance.below(8)
                if kind < 4:
                    deed = made_deed(chance, standing)
                    line, answer = line_of(deed), model.deed(deed)
                elif kind < 5:
                    line = ["undo", "redo", "begin", "end", "drop", "end"][chance.below(6)]
                    answer = model.order(line)
                elif kind < 6:
                    text, state = made_text(chance, standing), chance.below(model.book.many_states() + 2)
                    line, answer = f"ask {text} at {state}", model.ask(text, state)
                else:
                    text = made_text(chance, standing)
                    line, answer = f"ask {text}", model.ask(text, None)
                self.assertEqual(answering.say(line), answer, line)
            self.assertEqual(answering.say("lines"), "\n".join(model.book.lines()))
            stands, many = model.book.here(), model.book.many_states()
            self.assertEqual(answering.say("states"), f"state {stands} of {many}")

    def test_what_a_desk_says_is_read_again(self):
        answering = spoken(SMALL)
        book = book_of(answering.say("lines").split("\n"))
        for word in OF_NO_NAMES:
            self.assertEqual(answering.say("ask " + word).split("\n"), book.ask(word))
        for word in OF_TWO_NAMES:
            self.assertEqual(answering.say(f"ask {word} a c").split("\n"), book.ask(f"{word} a c"))


if __name__ == "__main__":
    unittest.main()
