"""Answers that are kept: [70] to [73], and [0] of a keeper."""

import unittest

from helping import (
    NAMES, OF_NO_NAMES, OF_TWO_NAMES, Alike, Chance, all_texts, do_deed, full_of_points,
    full_of_ties, made_deed, made_text, made_web, made_webs, outcome, reached, refused,
    told, web_with,
)
from reachbook import keeping
from reachbook.asking import question_of
from reachbook.errors import (
    BadLoad, BadName, BadText, BadTie, HasTies, NoPoint, NoTie, SamePoint, TooMany, Twice,
    WebError,
)
from reachbook.keeping import Keeper, Told
from reachbook.webs import MOST, Web, web_lines, web_of

DEEDS = ["put_point", "drop_point", "rename", "put_tie", "drop_tie", "set_load", "join", "part"]


def three_pieces():
    """The pieces a b c, d e f, g, and h i; ties 1 2, 3 4, none, 5."""
    return web_with("abcdefghi", [
        ("a", "b", 1), ("b", "c", 2, True), ("d", "e", 3), ("e", "f", 4, True), ("h", "i", 5)])


# One question of each piece alone, of two pieces, and of the whole.
OF_PIECES = ["comes a b", "together d f", "least g g", "fewest h i", "comes a d", "past a b g"]


def answers(keeper, texts=None):
    """The rows of kept or new answers, one behind the other."""
    return [keeper.ask(text).rows for text in texts or keeper.kept()]


class ToldTest(unittest.TestCase):

    def test_fields(self):
        rows = ["way 1", "load 7"]
        made = Told(rows, True)
        self.assertEqual((made.rows, made.is_anew), (["way 1", "load 7"], True))
        rows.append("x")
        self.assertEqual(made.rows, ["way 1", "load 7"])
        self.assertIs(Told([], False).is_anew, False)

    def test_the_interface(self):
        for kind in [Told, Keeper]:
            self.assertEqual(kind.__module__, "reachbook.keeping")
        for name in ["ask", "kept", "standing"] + DEEDS:
            self.assertIn(name, vars(Keeper))
        self.assertEqual(keeping.MOST_KEPT, 40)


class AskTest(unittest.TestCase):

    def test_anew_and_kept(self):
        keeper = Keeper(three_pieces())
        self.assertEqual(keeper.kept(), [])
        for text in OF_PIECES[:5] + ["pieces", "lightest", "sides"]:
            first = keeper.ask(text)
            self.assertIs(type(first), Told)
            self.assertIs(type(first.rows), list)
            self.assertIs(first.is_anew, True)
            again = keeper.ask(text)
            self.assertIs(again.is_anew, False)
            self.assertEqual(again.rows, first.rows)
            self.assertEqual(first.rows, question_of(text).told(three_pieces()))
        self.assertEqual(keeper.kept(), OF_PIECES[:5] + ["pieces", "lightest", "sides"])

    def test_rows_without_any(self):
        keeper = Keeper(Web())
        self.assertEqual(keeper.ask("pieces").rows, [])
        self.assertEqual((keeper.ask("pieces").rows, keeper.ask("pieces").is_anew), ([], False))

    def test_texts_of_other_names_are_other_texts(self):
        keeper = Keeper(three_pieces())
        keeper.ask("comes a b")
        for text in ["comes b a", "together a b", "comes a c"]:
            self.assertIs(keeper.ask(text).is_anew, True)

    def test_a_kept_answer_is_not_reckoned(self):
        keeper = Keeper(three_pieces())
        reckoned = []
        made = keeping.question_of

        def watched(text):
            question = made(text)
            tells = question.told
            question.told = lambda web: reckoned.append(text) or tells(web)
            return question

        keeping.question_of = watched
        try:
            for text in ["comes a b", "pieces", "comes a b", "pieces", "comes a b"]:
                keeper.ask(text)
        finally:
            keeping.question_of = made
        self.assertEqual(reckoned, ["comes a b", "pieces"])

    def test_refused(self):
        keeper = Keeper(three_pieces())
        for text in ["comes a b", "pieces", "least h i"]:
            keeper.ask(text)
        for text, kind in [
                ("", BadText), ("x", BadText), ("comes a", BadText), ("comes a b ", BadText),
                (None, BadText), (True, BadText), (0, BadText), (b"pieces", BadText),
                (["pieces"], BadText), ({}, BadText), (Alike(), BadText), (question_of("pieces"), BadText),
                ("comes a x", NoPoint), ("comes x b", NoPoint), ("must x x", NoPoint),
                ("must a a", SamePoint), ("past a b b", SamePoint)]:
            with self.subTest(text=text):
                refused(self, kind, keeper.ask, text)
                self.assertEqual(keeper.kept(), ["comes a b", "pieces", "least h i"])
                self.assertEqual(told(keeper.standing()), told(three_pieces()))
        self.assertEqual(refused(self, BadText, keeper.ask, "comes a B").place, 8)
        self.assertEqual(refused(self, NoPoint, keeper.ask, "past a y x").name, "y")
        for text in ["comes a b", "pieces", "least h i"]:
            self.assertIs(keeper.ask(text).is_anew, False)

    def test_what_was_refused_is_asked_again(self):
        keeper = Keeper(three_pieces())
        refused(self, NoPoint, keeper.ask, "comes a x")
        keeper.put_point("x")
        self.assertIs(keeper.ask("comes a x").is_anew, True)
        self.assertEqual(keeper.ask("comes a x").rows, ["border a b c"])


class OwnTest(unittest.TestCase):

    def test_what_was_told_is_the_askers_own(self):
        keeper = Keeper(three_pieces())
        for text in OF_PIECES + ["pieces", "knots"]:
            first = keeper.ask(text)
            rows = list(first.rows)
            first.rows.append("spoiled")
            first.rows.reverse()
            second = keeper.ask(text)
            self.assertEqual((second.rows, second.is_anew), (rows, False))
            second.rows.clear()
            second.is_anew = True
            third = keeper.ask(text)
            self.assertEqual((third.rows, third.is_anew), (rows, False))

    def test_what_was_told_stays_when_the_web_changes(self):
        keeper = Keeper(three_pieces())
        first = keeper.ask("comes a b")
        again = keeper.ask("comes a b")
        keeper.drop_tie(1)
        self.assertEqual(keeper.ask("comes a b").rows, ["border a"])
        self.assertEqual((first.rows, first.is_anew), (["way 1"], True))
        self.assertEqual((again.rows, again.is_anew), (["way 1"], False))

    def test_kept_is_the_askers_own(self):
        keeper = Keeper(three_pieces())
        keeper.ask("pieces")
        keeper.kept().clear()
        found = keeper.kept()
        keeper.ask("knots")
        self.assertEqual((found, keeper.kept()), (["pieces"], ["pieces", "knots"]))

    def test_the_web_is_copied(self):
        web = three_pieces()
        keeper = Keeper(web)
        self.assertEqual(told(keeper.standing()), told(web))
        web.drop_tie(1)
        web.put_point("z")
        self.assertEqual(told(keeper.standing()), told(three_pieces()))
        self.assertEqual(keeper.ask("comes a b").rows, ["way 1"])
        ahead = told(web)
        keeper.put_point("y")
        keeper.drop_tie(2)
        self.assertEqual(told(web), ahead)

    def test_standing_is_a_copy(self):
        keeper = Keeper(three_pieces())
        keeper.ask("comes a b")
        standing = keeper.standing()
        self.assertIs(type(standing), Web)
        standing.drop_tie(1)
        self.assertEqual(told(keeper.standing()), told(three_pieces()))
        self.assertEqual((keeper.ask("comes a b").rows, keeper.kept()), (["way 1"], ["comes a b"]))
        standing = keeper.standing()
        keeper.drop_tie(2)
        self.assertEqual(told(standing), told(three_pieces()))

    def test_a_list_of_numbers_is_not_kept(self):
        keeper = Keeper(three_pieces())
        numbers = [1, 2]
        keeper.part("b", "x", numbers)
        ahead = told(keeper.standing())
        self.assertEqual(numbers, [1, 2])
        numbers.clear()
        self.assertEqual(told(keeper.standing()), ahead)


class DeedsTest(unittest.TestCase):
    """Which answers each kind of deed touches."""

    def need(self, deed, touched, tells=None, loads_alone=False):
        """What a deed touches of questions of the pieces; those of the whole, too."""
        keeper = Keeper(three_pieces())
        web = three_pieces()
        texts = OF_PIECES + ["comes i h", "least a b"] + OF_NO_NAMES
        answers(keeper, texts)
        self.assertEqual(do_deed(keeper, deed), tells)
        do_deed(web, deed)
        self.assertEqual(told(keeper.standing()), told(web))
        gone = touched + (["lightest"] if loads_alone else OF_NO_NAMES)
        self.assertEqual(keeper.kept(), [text for text in texts if text not in gone])
        for text in texts:
            found = outcome(question_of(text).told, web)
            self.assertEqual(outcome(lambda: keeper.ask(text).rows), found, text)

    def test_put_point(self):
        self.need(("point", "z"), [])

    def test_drop_point(self):
        self.need(("gone", "g"), ["least g g", "past a b g"])

    def test_rename(self):
        self.need(("rename", "c", "z"), ["comes a b", "comes a d", "past a b g", "least a b"])
        self.need(("rename", "g", "z"), ["least g g", "past a b g"])
        self.need(("rename", "h", "z"), ["fewest h i", "comes i h"])

    def test_put_tie_within_a_piece(self):
        self.need(("tie", "f", "d"), ["together d f", "comes a d"], 6)
        self.need(("tie", "a", "c", 9), ["comes a b", "comes a d", "past a b g", "least a b"], 6)

    def test_put_tie_between_pieces(self):
        self.need(("tie", "e", "g", 9, True), ["together d f", "comes a d", "least g g", "past a b g"], 6)
        self.need(("tie", "g", "i", 9, False), ["least g g", "fewest h i", "past a b g", "comes i h"], 6)

    def test_drop_tie(self):
        self.need(("untie", 2), ["comes a b", "comes a d", "past a b g", "least a b"])
        self.need(("untie", 5), ["fewest h i", "comes i h"])

    def test_set_load(self):
        self.need(("load", 1, 9), ["least a b"], None, True)
        self.need(("load", 2, MOST), ["least a b"], None, True)
        self.need(("load", 3, 9), [], None, True)
        self.need(("load", 5, 9), [], None, True)

    def test_a_load_set_as_it_was(self):
        self.need(("load", 1, 1), ["least a b"], None, True)
        self.need(("load", 5, 5), [], None, True)

    def test_join(self):
        self.need(("join", "g", "c"), ["comes a b", "comes a d", "past a b g", "least g g", "least a b"])
        self.need(("join", "h", "i"), ["fewest h i", "comes i h"])
        self.need(("join", "d", "f"), ["together d f", "comes a d"])

    def test_part(self):
        self.need(("part", "b", "z", [2]), ["comes a b", "comes a d", "past a b g", "least a b"])
        self.need(("part", "b", "z", []), ["comes a b", "comes a d", "past a b g", "least a b"])
        self.need(("part", "g", "z", []), ["least g g", "past a b g"])
        self.need(("part", "i", "z", [5]), ["fewest h i", "comes i h"])

    def test_deeds_as_a_web_does_them(self):
        keeper = Keeper(Web())
        self.assertIsNone(keeper.put_point("a"))
        keeper.put_point("b")
        self.assertEqual(keeper.put_tie("a", "b"), 1)
        self.assertEqual(keeper.put_tie("a", "b", 7), 2)
        self.assertEqual(keeper.put_tie("b", "a", 8, True), 3)
        for deed in [("load", 2, 9), ("untie", 2), ("rename", "a", "c"), ("part", "b", "d", [3]),
                     ("join", "d", "c"), ("untie", 1), ("gone", "b")]:
            self.assertIsNone(do_deed(keeper, deed))
        self.assertEqual(told(keeper.standing()), (["d"], [], 3))

    def test_a_name_that_is_given_again(self):
        keeper = Keeper(web_with("abc", [("a", "b")]))
        answers(keeper, ["comes a b", "comes c c"])
        keeper.rename("a", "x")
        keeper.rename("c", "a")
        self.assertEqual(keeper.kept(), [])
        self.assertEqual(keeper.ask("comes a b").rows, ["border a"])

    def test_a_tie_parts_a_piece_and_each_goes_on_by_itself(self):
        keeper = Keeper(web_with("abcd", [("a", "b"), ("b", "c"), ("c", "d")]))
        keeper.drop_tie(2)
        answers(keeper, ["comes a b", "comes d c", "together a d"])
        keeper.put_tie("a", "b")
        self.assertEqual(keeper.kept(), ["comes d c"])

    def test_what_is_refused_touches_nothing(self):
        for handed, kind in [
                (("put_point", "a"), Twice), (("put_point", "A"), BadName), (("put_point", None), BadName),
                (("drop_point", "a"), HasTies), (("drop_point", "z"), NoPoint), (("drop_point", ["a"]), NoPoint),
                (("rename", "z", "y"), NoPoint), (("rename", "a", "b"), Twice), (("rename", "a", ""), BadName),
                (("put_tie", "a", "z"), NoPoint), (("put_tie", "a", "a"), BadTie), (("put_tie", "a", "b", -1), BadLoad),
                (("put_tie", "a", "b", 0, 1), BadTie), (("put_tie", "a", "b", True), BadLoad),
                (("drop_tie", 9), NoTie), (("drop_tie", True), NoTie), (("drop_tie", Alike()), NoTie),
                (("set_load", 9, 0), NoTie), (("set_load", 9, -1), NoTie), (("set_load", 1, -1), BadLoad),
                (("set_load", 1, True), BadLoad), (("set_load", 1, None), BadLoad), (("set_load", True, 1), NoTie),
                (("join", "a", "a"), SamePoint), (("join", "a", "z"), NoPoint), (("join", "z", "z"), NoPoint),
                (("part", "z", "y", []), NoPoint), (("part", "a", "b", []), Twice), (("part", "a", "A", []), BadName),
                (("part", "a", "z", None), NoTie), (("part", "a", "z", [5]), NoTie), (("part", "a", "z", [1, 1]), NoTie)]:
            with self.subTest(handed=handed):
                keeper = Keeper(three_pieces())
                texts = OF_PIECES + ["least a b"] + OF_NO_NAMES
                rows = answers(keeper, texts)
                refused(self, kind, getattr(keeper, handed[0]), *handed[1:])
                self.assertEqual(keeper.kept(), texts)
                self.assertEqual(told(keeper.standing()), told(three_pieces()))
                for text, ahead in zip(texts, rows):
                    found = keeper.ask(text)
                    self.assertEqual((found.rows, found.is_anew), (ahead, False))

    def test_full_webs(self):
        keeper = Keeper(full_of_ties())
        keeper.ask("sides")
        refused(self, TooMany, keeper.put_tie, "a", "b")
        self.assertEqual(keeper.kept(), ["sides"])
        keeper = Keeper(full_of_points())
        keeper.ask("comes a b")
        refused(self, TooMany, keeper.put_point, "q")
        refused(self, TooMany, keeper.part, "a", "q", [])
        self.assertEqual(keeper.kept(), ["comes a b"])

    def test_the_fields_of_refusals(self):
        keeper = Keeper(three_pieces())
        thing = ["z"]
        self.assertIs(refused(self, NoPoint, keeper.join, "a", thing).name, thing)
        self.assertIs(refused(self, NoTie, keeper.drop_tie, thing).number, thing)
        self.assertIsNone(refused(self, NoTie, keeper.part, "a", "z", ()).number)


class FortyTest(unittest.TestCase):

    def texts(self):
        return [f"comes {one} {other}" for one in NAMES[:7] for other in NAMES[:7]]

    def test_forty_and_forty_one(self):
        texts = self.texts()
        keeper = Keeper(full_of_points())
        for many, text in enumerate(texts[:40], 1):
            keeper.ask(text)
            self.assertEqual(keeper.kept(), texts[:many])
        self.assertIs(keeper.ask(texts[40]).is_anew, True)
        self.assertEqual(keeper.kept(), texts[1:41])
        self.assertIs(keeper.ask(texts[0]).is_anew, True)
        self.assertEqual(keeper.kept(), texts[2:41] + [texts[0]])
        self.assertIs(keeper.ask(texts[2]).is_anew, False)
        self.assertEqual(keeper.kept(), texts[3:41] + [texts[0], texts[2]])

    def test_an_ask_puts_its_text_last(self):
        keeper = Keeper(full_of_points())
        for text in ["pieces", "knots", "comes a b", "knots", "knots", "pieces"]:
            keeper.ask(text)
        self.assertEqual(keeper.kept(), ["comes a b", "knots", "pieces"])

    def test_what_is_asked_of_forty_is_not_the_one_that_goes(self):
        texts = self.texts()
        keeper = Keeper(full_of_points())
        answers(keeper, texts[:40])
        keeper.ask(texts[0])
        keeper.ask(texts[40])
        self.assertEqual(keeper.kept(), texts[2:40] + [texts[0], texts[40]])

    def test_refused_askings_at_forty(self):
        texts = self.texts()
        keeper = Keeper(full_of_points())
        answers(keeper, texts[:40])
        for text in ["comes a z", "must a a", "x", None]:
            with self.assertRaises(WebError):
                keeper.ask(text)
            self.assertEqual(keeper.kept(), texts[:40])

    def test_forty_behind_a_deed(self):
        texts = self.texts()
        keeper = Keeper(full_of_points())
        answers(keeper, texts[:40])
        keeper.put_tie("a", "p")
        left = [text for text in texts[:40] if "a" not in text.split(" ")]
        self.assertEqual(keeper.kept(), left)
        keeper.ask(texts[0])
        self.assertEqual(keeper.kept(), left + [texts[0]])


class Model:
    """Which answers are kept, by searches of the tests' own."""

    def __init__(self, web):
        self.web = web.copied()
        self.kept = []

    def ask(self, text):
        is_anew = text not in [row[0] for row in self.kept]
        if is_anew:
            rows = question_of(text).told(web_of(web_lines(self.web)))
            leans = self.beside(self.web, text.split(" ")[1:])
            self.kept.append((text, rows, leans))
        row = [row for row in self.kept if row[0] == text][0]
        self.kept = ([other for other in self.kept if other[0] != text] + [row])[-40:]
        return row[1], is_anew

    def beside(self, web, names):
        found = set()
        for name in names:
            if name in web.points():
                found.update(reached(web, name, True))
        return found

    def named(self, deed):
        """The names that a deed is of; a refusal of a number is the web's, too."""
        if deed[0] in ("untie", "load"):
            tie = self.web.tie_of(deed[1])
            return [tie.tail, tie.head]
        return list(deed[1:2] if deed[0] in ("point", "gone") else deed[1:3])

    def do(self, deed):
        ahead, names = self.web.copied(), self.named(deed)
        number = do_deed(self.web, deed)
        touched = self.beside(ahead, names) | self.beside(self.web, names)
        left = []
        for row in self.kept:
            text, _, leans = row
            is_touched = not leans or bool(leans & touched)
            if deed[0] == "load":
                is_touched = is_touched and text.split(" ")[0] in ("least", "lightest")
            if not is_touched:
                left.append(row)
        self.kept = left
        return number


class AllTest(unittest.TestCase):

    def test_by_a_model(self):
        for seed in range(120):
            web = made_web(seed, 8, 9)
            chance = Chance(seed + 1000)
            keeper, model = Keeper(web), Model(web)
            for _ in range(60):
                if chance.below(3) == 0:
                    deed = made_deed(chance, model.web)
                    self.assertEqual(outcome(do_deed, keeper, deed), outcome(model.do, deed), deed)
                else:
                    self.need_answer(keeper, model, made_text(chance, model.web))
                self.assertEqual(told(keeper.standing()), told(model.web))
                self.assertEqual(keeper.kept(), [row[0] for row in model.kept])

    def need_answer(self, keeper, model, text):
        found = outcome(lambda: [keeper.ask(text).rows])
        expected = outcome(lambda: [model.ask(text)[0]])
        self.assertEqual(found, expected, text)
        if found[0] == "list":
            again = keeper.ask(text)
            self.assertEqual((again.rows, again.is_anew), (model.ask(text)[0], False))
            anew = question_of(text).told(web_of(web_lines(keeper.standing())))
            self.assertEqual(again.rows, anew, text)

    def test_is_anew_by_a_model(self):
        for seed in range(60):
            web = made_web(seed, 8, 9)
            chance = Chance(seed + 2000)
            keeper, model = Keeper(web), Model(web)
            for _ in range(50):
                if chance.below(4) == 0:
                    deed = made_deed(chance, model.web)
                    self.assertEqual(outcome(do_deed, keeper, deed), outcome(model.do, deed))
                    continue
                text = made_text(chance, model.web)
                try:
                    expected = model.ask(text)
                except WebError:
                    continue
                found = keeper.ask(text)
                self.assertEqual((found.rows, found.is_anew), expected, text)

    def test_all_that_is_kept_is_as_reckoned_anew(self):
        for web in made_webs(12):
            chance = Chance(len(web_lines(web)))
            texts = [text for text in all_texts(web.points()) if outcome(question_of(text).told, web)[0] == "list"]
            for start in range(0, len(texts), 40):
                keeper = Keeper(web)
                answers(keeper, texts[start:start + 40])
                for _ in range(6):
                    outcome(do_deed, keeper, made_deed(chance, keeper.standing()))
                    for text in keeper.kept():
                        found = keeper.ask(text)
                        self.assertIs(found.is_anew, False)
                        self.assertEqual(found.rows, question_of(text).told(keeper.standing()), text)

    def test_all_words_are_asked_by_the_model(self):
        chance = Chance(5)
        words = {made_text(chance, three_pieces()).split(" ")[0] for _ in range(400)}
        self.assertEqual(words, set(OF_TWO_NAMES + OF_NO_NAMES + ["past"]))


if __name__ == "__main__":
    unittest.main()
