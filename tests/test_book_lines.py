"""The lines of a book, written and read: [85]."""

import unittest

from helping import Alike, Chance, made_deed, made_text, made_web, outcome, refused, told, web_with
from reachbook.books import Book, book_of
from reachbook.errors import BadLine, NoDeed, WebError
from reachbook.webs import MOST, Web, web_lines

# A state 0, from it 1 and 3, from 1 a 2 that is undone, as 1 is.
LINES = [
    "state 0", "point a", "point b", "tie 1 a b 5", "given 1",
    "state 1 0", "point a", "point b", "way 3 b a 0", "given 4",
    "state 2 1", "given 9",
    "state 3 0", "point c", "given 1",
    "at 0", "undone 1 2",
]
NO_LINES = [
    None, True, 0, b"at 0", ["at 0"], ("at", "0"), {}, Alike(), "", " ", "x", "end", "State 0",
    "states", "state", "state 0 0 0", "at", "undo", "at\t0", "book", "point", "7",
]


def all_of(book):
    """All that a book tells of itself."""
    webs = [told(book.web_at(state)) for state in range(book.many_states())]
    return (book.here(), book.many_states(), webs, book.lines())


def made_book(seed):
    """A book by chance, with some states undone."""
    chance = Chance(seed + 4000)
    book = Book(made_web(seed, 6, 7))
    for _ in range(chance.below(14)):
        step(chance, book)
    return book


def step(chance, book):
    """Does, undoes or does again, as chance has it; tells what came of it."""
    kind = chance.below(5)
    if kind < 2:
        rows = [made_deed(chance, book.web_at()) for _ in range(chance.below(3))]
        return outcome(book.do, rows)
    return outcome(book.undo if kind < 4 else book.redo)


class WritingTest(unittest.TestCase):

    def test_the_first_state_alone(self):
        self.assertEqual(Book(Web()).lines(), ["state 0", "given 0", "at 0", "undone"])
        self.assertEqual(
            Book(web_with("ba", [("a", "b", 7, True)])).lines(),
            ["state 0", "point b", "point a", "way 1 a b 7", "given 1", "at 0", "undone"])

    def test_states_in_order_with_what_they_came_from(self):
        book = Book(Web())
        book.do([("point", "a")])
        book.do([("point", "b")])
        book.undo()
        book.do([])
        self.assertEqual(book.lines(), [
            "state 0", "given 0", "state 1 0", "point a", "given 0",
            "state 2 1", "point a", "point b", "given 0", "state 3 1", "point a", "given 0",
            "at 3", "undone"])

    def test_undone_the_next_one_first(self):
        book = Book(Web())
        for _ in range(4):
            book.do([])
        book.undo()
        self.assertEqual(book.lines()[-2:], ["at 3", "undone 4"])
        book.undo()
        book.undo()
        self.assertEqual(book.lines()[-2:], ["at 1", "undone 2 3 4"])
        book.redo()
        self.assertEqual(book.lines()[-2:], ["at 2", "undone 3 4"])
        book.do([])
        self.assertEqual(book.lines()[-2:], ["at 5", "undone"])

    def test_numbers_of_two_figures(self):
        book = Book(Web())
        for _ in range(12):
            book.do([])
        book.undo()
        book.undo()
        lines = book.lines()
        self.assertIn("state 12 11", lines)
        self.assertEqual(lines[-2:], ["at 10", "undone 11 12"])
        self.assertEqual(book_of(lines).lines(), lines)

    def test_told_lines_are_the_askers_own(self):
        book = made_book(7)
        lines = book.lines()
        book.lines().clear()
        self.assertEqual(book.lines(), lines)
        kept = list(lines)
        book.do([("point", "z")])
        self.assertEqual(lines, kept)


class ReadingTest(unittest.TestCase):

    def test_what_is_read(self):
        book = book_of(LINES)
        self.assertIs(type(book), Book)
        self.assertEqual((book.here(), book.many_states()), (0, 4))
        self.assertEqual(told(book.web_at(1)), (["a", "b"], [(3, "b", "a", 0, True)], 4))
        self.assertEqual(told(book.web_at(2)), ([], [], 9))
        self.assertEqual(told(book.web_at()), (["a", "b"], [(1, "a", "b", 5, False)], 1))
        self.assertEqual(book.lines(), LINES)

    def test_it_goes_on(self):
        book = book_of(LINES)
        book.redo()
        self.assertEqual(book.here(), 1)
        self.assertEqual(book.ask("comes b a"), ["way 3"])
        self.assertEqual(book.do([("tie", "a", "b")]), 4)
        self.assertEqual([tie.number for tie in book.web_at().ties()], [3, 5])
        self.assertEqual(book.lines()[-2:], ["at 4", "undone"])
        book.undo()
        book.undo()
        refused(self, NoDeed, book.undo)
        self.assertEqual(book.lines()[-2:], ["at 0", "undone 1 4"])
        book = book_of(LINES)
        book.redo()
        book.redo()
        refused(self, NoDeed, book.redo)
        self.assertEqual(book.here(), 2)

    def test_where_it_stands(self):
        for here, undone in [(0, ""), (0, " 1"), (0, " 3"), (1, ""), (1, " 2"), (2, ""), (3, "")]:
            lines = LINES[:-2] + [f"at {here}", "undone" + undone]
            book = book_of(lines)
            self.assertEqual(book.here(), here)
            self.assertEqual(book.lines(), lines)

    def test_greatest_numbers(self):
        lines = ["state 0", "point a", "point b", f"tie {MOST} a b {MOST}", f"given {MOST}", "at 0", "undone"]
        self.assertEqual(book_of(lines).lines(), lines)

    def test_the_list_is_neither_changed_nor_kept(self):
        lines = list(LINES)
        book = book_of(lines)
        self.assertEqual(lines, LINES)
        lines.clear()
        self.assertEqual(book.lines(), LINES)

    def test_each_reading_is_a_book_of_its_own(self):
        book = book_of(LINES)
        book.redo()
        book.do([("point", "z")])
        self.assertEqual(book_of(LINES).lines(), LINES)

    def test_written_and_read_again(self):
        for seed in range(60):
            book = made_book(seed)
            again = book_of(book.lines())
            self.assertEqual(all_of(again), all_of(book))

    def test_both_go_on_alike(self):
        for seed in range(60):
            book = made_book(seed)
            again = book_of(book.lines())
            chances = Chance(seed), Chance(seed)
            for _ in range(12):
                self.assertEqual(step(chances[0], book), step(chances[1], again))
                self.assertEqual(all_of(again), all_of(book))
            for _ in range(12):
                state = chances[0].below(book.many_states())
                text = made_text(chances[0], book.web_at(state))
                self.assertEqual(outcome(again.ask, text, state), outcome(book.ask, text, state))

    def test_each_web_is_read_as_its_lines(self):
        for seed in range(20):
            book = made_book(seed)
            lines = []
            for state in range(book.many_states()):
                lines.extend(web_lines(book.web_at(state)))
            self.assertEqual([line for line in book.lines() if line.split(" ")[0] not in ("state", "at", "undone")], lines)


class BadLinesTest(unittest.TestCase):

    def bad(self, place, lines):
        with self.subTest(lines=lines):
            ahead = list(lines)
            error = refused(self, BadLine, book_of, lines)
            self.assertEqual(error.place, place)
            self.assertIs(type(error.place), int)
            self.assertEqual(lines, ahead)

    def bad_in(self, place, line, lines=None):
        """A line that can't stand at a place, in the one's stead or ahead of it."""
        lines = LINES if lines is None else lines
        self.bad(place, lines[:place] + [line])
        self.bad(place, lines[:place] + [line] + lines[place:])
        self.bad(place, lines[:place] + [line] + lines[place + 1:])
        self.bad(place, lines[:place] + [line, line])
        self.bad(place, lines[:place] + [line, None])

    def test_no_lists(self):
        for thing in [None, True, 0, "state 0", "\n".join(LINES), tuple(LINES), {}, {"state 0": 1},
                      {"state 0"}, Alike(), iter(LINES), Book(Web())]:
            with self.subTest(thing=thing):
                self.assertEqual(refused(self, BadLine, book_of, thing).place, 0)

    def test_lines_that_write_nothing(self):
        for line in NO_LINES:
            for place in range(len(LINES) + 1):
                if place == len(LINES):
                    self.bad(place, LINES + [line])
                else:
                    self.bad_in(place, line)

    def test_lines_lack(self):
        for many in range(len(LINES)):
            self.bad(many, LINES[:many])

    def test_anything_behind_undone(self):
        for line in LINES + NO_LINES + ["undone", "at 0", "given 0", "point x"]:
            self.bad(len(LINES), LINES + [line])
            self.bad(len(LINES), LINES + [line, line])
            self.bad(4, ["state 0", "given 0", "at 0", "undone", line])

    def test_the_first_state(self):
        for line in ["state 1", "state 0 0", "state 1 0", "state 00", "state  0", "state 0 ", " state 0",
                     "state -0", "state +0", "state x", "state 0\n", "given 0", "point a", "at 0", "undone",
                     "state None", "state 0 None"]:
            self.bad_in(0, line)
            self.bad(0, [line, "given 0", "at 0", "undone"])

    def test_later_states(self):
        for line in ["state 1", "state 0", "state 0 0", "state 2 0", "state 1 1", "state 1 2", "state 1 -1",
                     "state 01 0", "state 1 00", "state 1 x", "state x 0", "state 1 0 0", "state 1  0",
                     "state 1 0 ", "state 3 0", "state 1 0\n", "state +1 0", "state 1 " + "9" * 62,
                     "state " + "1" * 62 + " 0", "State 1 0", "states 1 0", "at 1 0", "undone 1 0"]:
            self.bad_in(5, line)
        for line in ["state 2", "state 1 0", "state 2 2", "state 2 3", "state 3 0", "state 3 1", "state 2 9"]:
            self.bad_in(10, line)
        for line in ["state 3 3", "state 3 4", "state 3", "state 2 0", "state 4 0"]:
            self.bad_in(12, line)

    def test_each_from_any_elder_one(self):
        for number in range(1, 6):
            for origin in range(8):
                lines = ["state 0", "given 0"]
                for elder in range(1, number):
                    lines.extend([f"state {elder} {elder - 1}", "given 0"])
                place = len(lines)
                lines.extend([f"state {number} {origin}", "given 0", f"at {number}", "undone"])
                if origin < number:
                    self.assertEqual(book_of(lines).lines(), lines)
                else:
                    self.bad(place, lines)

    def test_lines_of_webs(self):
        for line in ["given 0", "given x", "given 01", "tie 2 a a 0", "tie 1 a b 0", "way 2 a x 0", "point c",
                     "state 1 0", "at 0", "undone", "given 1 1"]:
            self.bad_in(4, line)
        for line in ["point a", "point A", "tie 1 a b 0", "state 1 0", "at 0", "undone"]:
            self.bad_in(2, line)
        for line in ["given 2", "given 0", "point c", "tie 3 b a 0", "tie 4 a c 0", f"tie 4 a b {MOST + 1}"]:
            self.bad_in(9, line)
        self.bad(1, ["state 0", "at 0", "undone"])
        self.bad(3, ["state 0", "given 0", "state 1 0"])
        self.bad(2, ["state 0", "given 0", "given 0", "at 0", "undone"])
        self.bad(2, ["state 0", "given 0", "point a", "at 0", "undone"])

    def test_a_web_that_does_not_end(self):
        lines = ["state 0", "point a", "point b", "tie 1 a b 0"]
        self.bad(4, lines)
        self.bad(4, lines + ["state 1 0", "given 0", "at 0", "undone"])
        self.bad(4, lines + ["at 0", "undone"])

    def test_a_web_is_read_by_its_own_lines(self):
        # What the elder state has, the later one hasn't.
        lines = ["state 0", "point a", "point b", "given 0", "state 1 0", "point a", "tie 1 a b 0", "given 1"]
        self.bad(6, lines + ["at 0", "undone"])
        lines = ["state 0", "point a", "given 5", "state 1 0", "point a", "given 0", "at 1", "undone"]
        self.assertEqual(book_of(lines).lines(), lines)

    def test_at(self):
        for line in ["at 4", "at 9", "at -1", "at 00", "at x", "at 0 0", "at  0", "at 0 ", "At 0", "at 0\n",
                     "at " + "9" * 62, "undone", "state 4", "given 0"]:
            self.bad_in(15, line)
        self.bad(2, ["state 0", "given 0", "at 1", "undone"])
        self.bad(0, ["at 0", "undone"])

    def test_undone(self):
        for line in ["undone 0", "undone 2", "undone 1 1", "undone 1 3", "undone 2 1", "undone 3 2", "undone 4",
                     "undone 1 2 3", "undone 1 2 2", "undone 1 x", "undone x", "undone 01", "undone  1",
                     "undone 1 ", "undone ", "Undone", "undone 1 2 4", "undone -1", "undone 1 0",
                     "undone " + "9" * 62, "at 0", "given 0"]:
            self.bad_in(16, line)
        for here, lines in [(1, ["undone 1", "undone 3", "undone 0", "undone 2 3"]), (2, ["undone 1", "undone 2", "undone 3"]),
                            (3, ["undone 0", "undone 1", "undone 3"])]:
            for line in lines:
                self.bad(16, LINES[:15] + [f"at {here}", line])

    def test_the_first_bad_line_is_told(self):
        self.bad(1, ["state 0", "x", "state 5", "at 9"])
        self.bad(2, ["state 0", "given 0", "x", "x", "x"])
        self.bad(2, ["state 0", "given 0", "at 9", "undone 9"])
        self.bad(3, ["state 0", "given 0", "at 0", "undone 9", "x"])

    def test_spoiled_books(self):
        """Behind a line that is put, gone or changed, a book is as written or refused."""
        for seed in range(25):
            lines = made_book(seed).lines()
            chance = Chance(seed)
            for _ in range(40):
                spoiled = list(lines)
                at = chance.below(len(lines))
                kind = chance.below(3)
                if kind == 0:
                    del spoiled[at]
                elif kind == 1:
                    spoiled.insert(at, lines[chance.below(len(lines))])
                else:
                    spoiled[at] = lines[chance.below(len(lines))]
                try:
                    self.assertEqual(book_of(spoiled).lines(), spoiled)
                except WebError as error:
                    self.assertIs(type(error), BadLine)
                    # All ahead of that place could stand: what lacks is told there.
                    place = error.place
                    self.assertEqual(refused(self, BadLine, book_of, spoiled[:place]).place, place)


if __name__ == "__main__":
    unittest.main()
