"""A desk: lines are said to it, and each is answered by a text."""

from reachbook.books import Book
from reachbook.errors import BadBundle, BadText, NoDeed, NoPoint, NoState, SamePoint
from reachbook.webs import Web
from reachbook.words import number_of, number_text, words_of

NO_LINE = "no line"
ASK = "ask "
AT = " at "

# From a deed's word to how many words stand behind it as they are, and how
# many numbers behind these, at least and at most; None: as many as may be.
DEEDS = {
    "point": (1, 0, 0), "gone": (1, 0, 0), "rename": (2, 0, 0),
    "tie": (2, 0, 1), "way": (2, 0, 1), "untie": (0, 1, 1), "load": (0, 2, 2),
    "join": (2, 0, 0), "part": (2, 0, None),
}


def _deed(word, names, numbers):
    """The deed of a book's bundle that a line's parts write."""
    if word == "way":
        load = numbers[0] if numbers else 0
        return ("tie", *names, load, True)
    if word == "part":
        return ("part", *names, numbers)
    return (word, *names, *numbers)


def _deed_of(words):
    """The deed that a line's words write; None where they write none."""
    if words[0] not in DEEDS:
        return None
    many, least, most = DEEDS[words[0]]
    names = words[1:1 + many]
    numbers = [number_of(word) for word in words[1 + many:]]
    if len(names) < many or len(numbers) < least or None in numbers:
        return None
    if most is not None and len(numbers) > most:
        return None
    return _deed(words[0], names, numbers)


def _question_and_state(asked):
    """The question's text, and the number of the state that is asked, or None."""
    place = asked.rfind(AT)
    if place < 0:
        return asked, None
    number = number_of(asked[place + len(AT):])
    if number is None:
        return asked, None
    return asked[:place], number


class Desk:
    """A book that is spoken to by lines."""

    def __init__(self):
        self._book = Book(Web())
        # The deeds gathered in the open bundle, None where none is open.
        self._bundle = None

    def say(self, line):
        """The answer to a line."""
        if not isinstance(line, str):
            return NO_LINE
        if line.startswith(ASK):
            return self._answer(line[len(ASK):])
        words = words_of(line)
        if words is None:
            return NO_LINE
        deed = _deed_of(words)
        if deed is None:
            return self._order(words)
        return self._take(deed)

    def _take(self, deed):
        """Gathers a deed, or does it where no bundle is open."""
        if self._bundle is None:
            return self._do([deed])
        self._bundle.append(deed)
        return "kept"

    def _do(self, deeds):
        """Does a bundle."""
        try:
            self._book.do(deeds)
        except BadBundle as error:
            return f"refused {number_text(error.place)} {error.word}"
        return self._stands()

    def _stands(self):
        """Which state stands."""
        return f"state {number_text(self._book.here())}"

    def _order(self, words):
        """Follows an order, a line of one word."""
        match words:
            case ["begin"] if self._bundle is None:
                self._bundle = []
                return "begun"
            case ["end"] if self._bundle is not None:
                deeds = self._bundle
                self._bundle = None
                return self._do(deeds)
            case ["drop"] if self._bundle is not None:
                self._bundle = None
                return "dropped"
            case ["undo"]:
                return self._undo()
            case ["redo"]:
                return self._redo()
            case ["states"]:
                return f"{self._stands()} of {number_text(self._book.many_states())}"
            case ["lines"]:
                return "\n".join(self._book.lines())
        return NO_LINE

    def _undo(self):
        try:
            self._book.undo()
        except NoDeed:
            return "no deed"
        return self._stands()

    def _redo(self):
        try:
            self._book.redo()
        except NoDeed:
            return "no deed"
        return self._stands()

    def _answer(self, asked):
        """Asks the book what stands behind "ask "."""
        text, state = _question_and_state(asked)
        try:
            rows = self._book.ask(text, state)
        except BadText as bad:
            return f"bad text {number_text(bad.place)}"
        except NoState:
            return "no state"
        except NoPoint as lacking:
            return f"no point {lacking.name}"
        except SamePoint:
            return "same point"
        return "\n".join(rows) if rows else "nothing"
