"""Books: bundles, states, undone and done again, asked: [80] to [84]."""

import unittest
from collections import namedtuple

from helping import (
    NAMES, Alike, Chance, all_texts, do_deed, full_of_points, full_of_ties, made_deed,
    made_text, made_web, outcome, refused, told, web_with,
)
from reachbook import books
from reachbook.asking import question_of
from reachbook.books import Book
from reachbook.errors import (
    BadBundle, BadLoad, BadName, BadText, BadTie, HasTies, NoDeed, NoPoint, NoState, NoTie,
    SamePoint, TooMany, Twice, WebError,
)
from reachbook.webs import MOST, Web, web_lines, web_of

WORDS = {
    BadName: "name", Twice: "twice", TooMany: "many", NoPoint: "point", BadTie: "tie",
    BadLoad: "load", NoTie: "number", HasTies: "ties", SamePoint: "same",
}
NO_STATES = [True, False, -1, "0", "", b"0", 0.0, [0], (0,), {0: 0}, {0}, Alike(), object(), 10 ** 5000]


def small_web():
    return web_with("abc", [("a", "b", 1), ("b", "c", 2, True)])


def all_of(book):
    """All that a book tells of itself."""
    webs = [told(book.web_at(state)) for state in range(book.many_states())]
    return (book.here(), book.many_states(), webs, book.lines())


def refused_bundle(case, book, rows):
    """The place and the word of a bundle's refusal, which changes nothing."""
    ahead = all_of(book)
    error = refused(case, BadBundle, book.do, rows)
    case.assertEqual(all_of(book), ahead)
    case.assertIs(type(error.place), int)
    case.assertIs(type(error.word), str)
    return error.place, error.word


class StatesTest(unittest.TestCase):

    def test_the_first_state(self):
        book = Book(small_web())
        self.assertEqual((book.here(), book.many_states()), (0, 1))
        self.assertEqual(told(book.web_at()), told(small_web()))
        self.assertEqual(told(book.web_at(0)), told(small_web()))

    def test_states_are_numbered_as_they_are_made(self):
        book = Book(Web())
        for number, name in enumerate("abc", 1):
            self.assertEqual(book.do([("point", name)]), number)
            self.assertEqual((book.here(), book.many_states()), (number, number + 1))
        self.assertEqual([book.web_at(state).points() for state in range(4)], [[], ["a"], ["a", "b"], ["a", "b", "c"]])

    def test_the_web_is_copied(self):
        web = small_web()
        book = Book(web)
        web.drop_tie(1)
        self.assertEqual(told(book.web_at()), told(small_web()))
        ahead = told(web)
        book.do([("untie", 2)])
        self.assertEqual(told(web), ahead)

    def test_a_told_web_is_a_copy(self):
        book = Book(small_web())
        book.do([("point", "d")])
        ahead = all_of(book)
        for state in [None, 0, 1]:
            web = book.web_at(state)
            self.assertIs(type(web), Web)
            web.drop_tie(1)
            web.put_point("z")
        self.assertEqual(all_of(book), ahead)
        web = book.web_at()
        book.do([("untie", 1)])
        self.assertEqual([tie.number for tie in web.ties()], [1, 2])

    def test_no_states(self):
        book = Book(small_web())
        book.do([])
        for state in NO_STATES + [2, 3]:
            ahead = all_of(book)
            refused(self, NoState, book.web_at, state)
            refused(self, NoState, book.ask, "pieces", state)
            self.assertEqual(all_of(book), ahead)

    def test_the_interface(self):
        for made in [books.Book, books.book_of]:
            self.assertEqual(made.__module__, "reachbook.books")
        for name in ["do", "undo", "redo", "here", "many_states", "web_at", "ask", "lines"]:
            self.assertIn(name, vars(Book))


class DeedsTest(unittest.TestCase):
    """Each kind of deed, with all its parts and with parts left out."""

    def need(self, deeds, call):
        """What a bundle does, a web does by its own deeds, handed to call."""
        web = small_web()
        call(web)
        book = Book(small_web())
        self.assertEqual(book.do(deeds), 1)
        self.assertEqual(told(book.web_at()), told(web))
        self.assertEqual(told(book.web_at(0)), told(small_web()))

    def test_point(self):
        self.need([("point", "d")], lambda web: web.put_point("d"))

    def test_gone(self):
        self.need([("untie", 2), ("gone", "c")], lambda web: [web.drop_tie(2), web.drop_point("c")])

    def test_rename(self):
        self.need([("rename", "b", "x")], lambda web: web.rename("b", "x"))

    def test_tie(self):
        self.need([("tie", "c", "a")], lambda web: web.put_tie("c", "a"))
        self.need([("tie", "c", "a", 7)], lambda web: web.put_tie("c", "a", 7))
        self.need([("tie", "c", "a", MOST, False)], lambda web: web.put_tie("c", "a", MOST))
        self.need([("tie", "c", "a", 0, True)], lambda web: web.put_tie("c", "a", 0, True))

    def test_untie(self):
        self.need([("untie", 1)], lambda web: web.drop_tie(1))

    def test_load(self):
        self.need([("load", 2, 9)], lambda web: web.set_load(2, 9))
        self.need([("load", 2, 2)], lambda web: None)

    def test_join(self):
        self.need([("join", "c", "b")], lambda web: web.join("c", "b"))

    def test_part(self):
        self.need([("part", "b", "x", [2])], lambda web: web.part("b", "x", [2]))
        self.need([("part", "b", "x", [2, 1])], lambda web: web.part("b", "x", [1, 2]))
        self.need([("part", "b", "x", [])], lambda web: web.part("b", "x", []))

    def test_none(self):
        self.need([], lambda web: None)

    def test_one_behind_the_other(self):
        def change(web):
            web.put_point("d")
            web.put_tie("d", "a", 4)
            web.drop_tie(3)
            web.put_tie("d", "b", 5, True)
            web.rename("d", "e")
            web.join("a", "e")

        self.need([
            ("point", "d"), ("tie", "d", "a", 4), ("untie", 3), ("tie", "d", "b", 5, True),
            ("rename", "d", "e"), ("join", "a", "e")], change)

    def test_the_same_deed_twice(self):
        deed = ("tie", "a", "b")
        self.need([deed, deed], lambda web: [web.put_tie("a", "b"), web.put_tie("a", "b")])

    def test_a_tuple_of_a_kind_of_its_own(self):
        deed = namedtuple("Deed", "word name")("point", "d")
        self.need([deed], lambda web: web.put_point("d"))

    def test_what_is_handed_in_is_neither_changed_nor_kept(self):
        numbers = [2, 1]
        rows = [("part", "b", "x", numbers), ("point", "y")]
        book = Book(small_web())
        book.do(rows)
        self.assertEqual((rows, numbers), ([("part", "b", "x", [2, 1]), ("point", "y")], [2, 1]))
        ahead = all_of(book)
        numbers.clear()
        rows.append(("point", "z"))
        book.undo()
        book.redo()
        self.assertEqual(all_of(book), ahead)


class RefusedTest(unittest.TestCase):

    def book(self):
        """A book with a state that is undone."""
        book = Book(small_web())
        book.do([("point", "d")])
        book.do([("gone", "d")])
        book.undo()
        return book

    def need(self, deed, word):
        """A deed's refusal at each place, and nothing is forgotten."""
        with self.subTest(deed=deed):
            good = [("point", "y"), ("tie", "y", "a", 3)]
            for many in range(3):
                for behind in [[], [("point", "z")], [("gone", "nowhere")], [None]]:
                    book = self.book()
                    rows = good[:many] + [deed] + behind
                    self.assertEqual(refused_bundle(self, book, rows), (many, word))
                    self.assertEqual(len(rows), many + 1 + len(behind))
                    book.redo()
                    self.assertEqual(book.here(), 2)

    def test_no_lists(self):
        for rows in [None, True, 0, "rows", b"", (), (("point", "x"),), {}, {"point": "x"}, {1},
                     Alike(), range(0), ("point", "x"), object(), iter([])]:
            self.assertEqual(refused_bundle(self, self.book(), rows), (0, "rows"))

    def test_no_deeds(self):
        for deed in [
                None, True, 0, "point", "point x", b"point", [], ["point", "x"], {}, {"point", "x"},
                Alike(), object(), (), ("point",), ("point", "x", "y"), ("gone",), ("gone", "a", "b"),
                ("rename",), ("rename", "a"), ("rename", "a", "x", "y"), ("tie",), ("tie", "a"),
                ("tie", "a", "b", 0, True, 0), ("untie",), ("untie", 1, 2), ("load",), ("load", 1),
                ("load", 1, 2, 3), ("join",), ("join", "a"), ("join", "a", "b", "c"), ("part",),
                ("part", "b"), ("part", "b", "x"), ("part", "b", "x", [], []), ("part", "b", "x", 1, 2),
                ("way", "a", "b"), ("way", "a", "b", 1), ("put_point", "x"), ("drop", "a"), ("begin",),
                ("x",), ("", "x"), ("Point", "x"), ("point ", "x"), (None, "x"), (0, "x"), (True, "x"),
                (b"point", "x"), (["point"], "x"), (("point", "x"),), (Alike(), "x"), ("pieces",),
                ("given", 7), (Alike(),), ("point", ("x",), None)]:
            self.need(deed, "deed")

    def test_name(self):
        for name in ["", "A", "a b", "abcdefghijklm", None, True, 7, ["x"], {}, Alike()]:
            self.need(("point", name), "name")
            self.need(("rename", "a", name), "name")
            self.need(("part", "a", name, None), "name")

    def test_twice(self):
        self.need(("point", "a"), "twice")
        self.need(("rename", "a", "a"), "twice")
        self.need(("rename", "a", "d"), "twice")
        self.need(("part", "a", "b", None), "twice")

    def test_many(self):
        book = Book(full_of_points())
        for deed in [("point", "q"), ("part", "a", "q", []), ("part", "a", "q", None)]:
            self.assertEqual(refused_bundle(self, book, [deed]), (0, "many"))
            self.assertEqual(refused_bundle(self, book, [("gone", "p"), ("point", "p"), deed]), (2, "many"))
        book = Book(full_of_ties())
        self.assertEqual(refused_bundle(self, book, [("tie", "a", "b")]), (0, "many"))
        self.assertEqual(refused_bundle(self, book, [("untie", 1), ("tie", "a", "b"), ("tie", "a", "b")]), (2, "many"))

    def test_point(self):
        for name in ["x", "", "A", None, True, 7, ["a"], Alike()]:
            self.need(("gone", name), "point")
            self.need(("rename", name, "A"), "point")
            self.need(("tie", name, "a"), "point")
            self.need(("tie", "a", name, -1, 7), "point")
            self.need(("join", name, "a"), "point")
            self.need(("join", "a", name), "point")
            self.need(("join", name, name), "point")
            self.need(("part", name, "A", None), "point")

    def test_tie(self):
        self.need(("tie", "a", "a"), "tie")
        self.need(("tie", "a", "a", -1), "tie")
        for is_oneway in [None, 0, 1, "True", [], Alike()]:
            self.need(("tie", "a", "b", 0, is_oneway), "tie")
            self.need(("tie", "a", "b", -1, is_oneway), "tie")

    def test_load(self):
        for load in [-1, MOST + 1, None, True, False, "1", 0.0, [1], Alike()]:
            self.need(("tie", "a", "b", load), "load")
            self.need(("tie", "a", "b", load, True), "load")
            self.need(("load", 1, load), "load")

    def test_number(self):
        for number in [0, 4, -1, None, True, "1", [1], Alike()]:
            self.need(("untie", number), "number")
            self.need(("load", number, 1), "number")
            self.need(("load", number, -1), "number")
            self.need(("part", "b", "x", [number]), "number")
            self.need(("part", "b", "x", [1, number, 2]), "number")
        for numbers in [None, 1, (), (1,), {1}, "1", Alike()]:
            self.need(("part", "b", "x", numbers), "number")
        self.need(("part", "b", "x", [1, 1]), "number")
        self.need(("part", "a", "x", [2]), "number")

    def test_ties(self):
        self.need(("gone", "a"), "ties")
        self.need(("gone", "c"), "ties")

    def test_same(self):
        self.need(("join", "a", "a"), "same")

    def test_the_web_refuses_as_it_is_then(self):
        book = Book(small_web())
        self.assertEqual(refused_bundle(self, book, [("point", "x"), ("point", "x")]), (1, "twice"))
        self.assertEqual(refused_bundle(self, book, [("untie", 1), ("untie", 1)]), (1, "number"))
        self.assertEqual(refused_bundle(self, book, [("untie", 1), ("untie", 2), ("gone", "c"), ("gone", "c")]), (3, "point"))
        self.assertEqual(refused_bundle(self, book, [("tie", "a", "b"), ("untie", 4)]), (1, "number"))
        self.assertEqual(book.do([("tie", "a", "b"), ("untie", 3)]), 1)

    def test_numbers_of_a_refused_bundle_are_given_again(self):
        book = Book(small_web())
        refused_bundle(self, book, [("tie", "a", "b"), ("tie", "a", "b"), ("point", "a")])
        book.do([("tie", "a", "c")])
        self.assertEqual([tie.number for tie in book.web_at().ties()], [1, 2, 3])

    def test_a_long_bundle(self):
        rows = [("point", "x"), ("gone", "x")] * 200
        book = Book(small_web())
        self.assertEqual(refused_bundle(self, book, rows + [("point", "a")]), (400, "twice"))
        self.assertEqual(book.do(rows), 1)


class UndoTest(unittest.TestCase):

    def test_nothing_to_undo_or_to_do_again(self):
        book = Book(small_web())
        for _ in range(2):
            ahead = all_of(book)
            refused(self, NoDeed, book.undo)
            refused(self, NoDeed, book.redo)
            self.assertEqual(all_of(book), ahead)

    def test_there_and_back(self):
        book = Book(Web())
        for name in "abc":
            book.do([("point", name)])
        for here in [2, 1, 0]:
            self.assertIsNone(book.undo())
            self.assertEqual((book.here(), book.many_states()), (here, 4))
            self.assertEqual(book.web_at().points(), ["a", "b", "c"][:here])
        refused(self, NoDeed, book.undo)
        for here in [1, 2, 3]:
            self.assertIsNone(book.redo())
            self.assertEqual((book.here(), book.many_states()), (here, 4))
        refused(self, NoDeed, book.redo)
        self.assertEqual(book.web_at().points(), ["a", "b", "c"])

    def test_a_bundle_between(self):
        book = Book(Web())
        for name in "abc":
            book.do([("point", name)])
        book.undo()
        book.undo()
        self.assertEqual(book.do([("point", "x")]), 4)
        refused(self, NoDeed, book.redo)
        self.assertEqual(book.web_at().points(), ["a", "x"])
        book.undo()
        self.assertEqual(book.here(), 1)
        book.undo()
        self.assertEqual(book.here(), 0)
        refused(self, NoDeed, book.undo)
        book.redo()
        book.redo()
        self.assertEqual(book.here(), 4)
        refused(self, NoDeed, book.redo)

    def test_a_bundle_of_no_deeds_between(self):
        book = Book(small_web())
        book.do([("point", "d")])
        book.undo()
        self.assertEqual(book.do([]), 2)
        refused(self, NoDeed, book.redo)
        self.assertEqual(told(book.web_at()), told(small_web()))
        book.undo()
        self.assertEqual(book.here(), 0)

    def test_done_again_is_the_one_undone_last(self):
        book = Book(Web())
        book.do([("point", "a")])
        book.do([("point", "b")])
        book.undo()
        book.undo()
        book.redo()
        self.assertEqual(book.here(), 1)
        book.undo()
        book.redo()
        book.redo()
        self.assertEqual(book.here(), 2)

    def test_a_refused_bundle_between(self):
        book = Book(Web())
        book.do([("point", "a")])
        book.undo()
        for rows in [None, [("point", "A")], [None], [("point", "a"), ("point", "a")]]:
            refused_bundle(self, book, rows)
        book.redo()
        self.assertEqual(book.here(), 1)

    def test_no_state_is_forgotten(self):
        book = Book(Web())
        for name in "abc":
            book.do([("point", name)])
            book.undo()
        self.assertEqual((book.here(), book.many_states()), (0, 4))
        self.assertEqual([book.web_at(state).points() for state in range(4)], [[], ["a"], ["b"], ["c"]])

    def test_numbers_go_on_from_the_state_that_stands(self):
        book = Book(small_web())
        book.do([("tie", "a", "b"), ("tie", "a", "b")])
        book.undo()
        book.do([("tie", "a", "c")])
        self.assertEqual([tie.number for tie in book.web_at().ties()], [1, 2, 3])

    def test_hundred_states(self):
        book = Book(web_with("a"))
        for number in range(1, 100):
            self.assertEqual(book.do([("rename", "ab"[number % 2 == 0], "ab"[number % 2])]), number)
        self.assertEqual(book.many_states(), 100)
        for number in range(98, -1, -1):
            book.undo()
            self.assertEqual(book.web_at().points(), ["ab"[number % 2]])
        for number in range(1, 100):
            book.redo()
            self.assertEqual(book.here(), number)


class AskTest(unittest.TestCase):

    def book(self):
        book = Book(small_web())
        book.do([("tie", "c", "a", 5)])
        book.do([("untie", 1), ("rename", "a", "x")])
        book.undo()
        return book

    def test_by_number_and_by_none(self):
        book = self.book()
        webs = [book.web_at(state) for state in range(3)]
        for text in all_texts(["a", "b", "c", "x"]):
            for state in [0, 1, 2]:
                found = outcome(question_of(text).told, webs[state])
                self.assertEqual(outcome(book.ask, text, state), found, (text, state))
            found = outcome(question_of(text).told, webs[1])
            self.assertEqual(outcome(book.ask, text), found)
            self.assertEqual(outcome(book.ask, text, None), found)

    def test_states_that_do_not_stand(self):
        book = self.book()
        self.assertEqual(book.ask("comes c a"), ["way 3"])
        self.assertEqual(book.ask("comes c a", 0), ["border c"])
        self.assertEqual(book.ask("comes c x", 2), ["way 3"])
        book.undo()
        self.assertEqual(book.ask("comes c a"), ["border c"])
        self.assertEqual(book.ask("comes c a", 1), ["way 3"])

    def test_rows_are_the_askers_own(self):
        book = self.book()
        ahead = all_of(book)
        for text in ["pieces", "comes a b", "lightest"]:
            rows = book.ask(text)
            kept = list(rows)
            rows.append("spoiled")
            self.assertEqual(book.ask(text), kept)
        self.assertEqual(all_of(book), ahead)

    def test_the_first_refusal_that_is_due(self):
        book = self.book()
        ahead = all_of(book)
        for text in [None, "", "x", "comes", "comes x A", 7, Alike(), ["pieces"]]:
            for state in NO_STATES + [None, 0, 9]:
                refused(self, BadText, book.ask, text, state)
        for text in ["pieces", "comes y z", "must a a", "must z z"]:
            for state in NO_STATES + [3, 9]:
                refused(self, NoState, book.ask, text, state)
        for state in [None, 0, 1, 2]:
            self.assertEqual(refused(self, NoPoint, book.ask, "must z z", state).name, "z")
            self.assertEqual(refused(self, NoPoint, book.ask, "past b b y", state).name, "y")
            refused(self, SamePoint, book.ask, "must b b", state)
        self.assertEqual(refused(self, NoPoint, book.ask, "comes a x", 1).name, "x")
        self.assertEqual(refused(self, NoPoint, book.ask, "comes a x", 2).name, "a")
        self.assertEqual(refused(self, BadText, book.ask, "comes a X", 9).place, 8)
        self.assertEqual(all_of(book), ahead)


class Model:
    """A book, written here once more."""

    def __init__(self, web):
        self.states = [(web.copied(), None)]
        self.at = 0
        self.left = []

    def do(self, rows):
        web = self.states[self.at][0].copied()
        for place, deed in enumerate(rows):
            try:
                do_deed(web, deed)
            except WebError as error:
                raise BadBundle(place, WORDS[type(error)]) from None
        self.states.append((web, self.at))
        self.at = len(self.states) - 1
        self.left = []
        return self.at

    def undo(self):
        if self.at == 0:
            raise NoDeed("")
        self.left.append(self.at)
        self.at = self.states[self.at][1]

    def redo(self):
        if not self.left:
            raise NoDeed("")
        self.at = self.left.pop()


class AllTest(unittest.TestCase):

    def test_by_a_model(self):
        for seed in range(80):
            chance = Chance(seed + 3000)
            web = made_web(seed, 7, 8)
            book, model = Book(web), Model(web)
            for _ in range(40):
                kind = chance.below(6)
                if kind < 2:
                    standing = model.states[model.at][0]
                    rows = [made_deed(chance, standing) for _ in range(chance.below(4))]
                    self.assertEqual(outcome(book.do, rows), outcome(model.do, rows), rows)
                elif kind < 4:
                    self.assertEqual(outcome(book.undo), outcome(model.undo))
                elif kind < 5:
                    self.assertEqual(outcome(book.redo), outcome(model.redo))
                else:
                    state = chance.below(len(model.states))
                    text = made_text(chance, model.states[state][0])
                    alike = web_of(web_lines(model.states[state][0]))
                    self.assertEqual(outcome(book.ask, text, state), outcome(question_of(text).told, alike))
                self.assertEqual(book.here(), model.at)
                self.assertEqual(book.many_states(), len(model.states))
                self.assertEqual(told(book.web_at()), told(model.states[model.at][0]))
            for state, (web, _) in enumerate(model.states):
                self.assertEqual(told(book.web_at(state)), told(web))

    def test_an_undone_web_is_asked_as_ahead(self):
        for seed in range(20):
            chance = Chance(seed)
            book = Book(made_web(seed, 6, 8))
            texts = all_texts(NAMES[:4])
            ahead = [outcome(book.ask, text) for text in texts]
            while book.many_states() < 6:
                outcome(book.do, [made_deed(chance, book.web_at()), made_deed(chance, book.web_at())])
            while book.here():
                book.undo()
            self.assertEqual([outcome(book.ask, text) for text in texts], ahead)


if __name__ == "__main__":
    unittest.main()
