"""A book of a web's states, made by bundles of deeds, and its lines."""

from reachbook.asking import question_of
from reachbook.errors import (
    BadBundle, BadLine, BadLoad, BadName, BadTie, HasTies, NoDeed, NoPoint,
    NoState, NoTie, SamePoint, TooMany, Twice,
)
from reachbook.webs import web_lines, web_of
from reachbook.words import is_among, number_of, number_text, words_of


class State:
    """A state: its web, and the number of the state it came from, or None."""

    def __init__(self, web, origin):
        self.web = web
        self.origin = origin


def _has_word(deed):
    """Whether a thing is a tuple with a text ahead."""
    # The kind of the word is asked first: a thing of another kind might call
    # itself equal to a word.
    return isinstance(deed, tuple) and len(deed) > 0 and isinstance(deed[0], str)


def _do_deed(web, deed):
    """Does a deed; False where a tuple is none."""
    match deed:
        case ("point", name):
            web.put_point(name)
        case ("gone", name):
            web.drop_point(name)
        case ("rename", name, other):
            web.rename(name, other)
        case ("tie", tail, head):
            web.put_tie(tail, head)
        case ("tie", tail, head, load):
            web.put_tie(tail, head, load)
        case ("tie", tail, head, load, is_oneway):
            web.put_tie(tail, head, load, is_oneway)
        case ("untie", number):
            web.drop_tie(number)
        case ("load", number, load):
            web.set_load(number, load)
        case ("join", name, other):
            web.join(name, other)
        case ("part", name, other, numbers):
            web.part(name, other, numbers)
        case _:
            return False
    return True


def _word_of_refusal(web, deed):
    """Does a deed; the word that tells why it is refused, None where it isn't."""
    try:
        if _has_word(deed) and _do_deed(web, deed):
            return None
    except BadName:
        return "name"
    except Twice:
        return "twice"
    except TooMany:
        return "many"
    except NoPoint:
        return "point"
    except BadTie:
        return "tie"
    except BadLoad:
        return "load"
    except NoTie:
        return "number"
    except HasTies:
        return "ties"
    except SamePoint:
        return "same"
    return "deed"


class Book:
    """States of a web, one of which stands."""

    def __init__(self, web):
        self._states = [State(web.copied(), None)]
        self._here = 0
        # The states that may be done again, the next one first.
        self._undone = []

    def do(self, rows):
        """Does a bundle of deeds, and tells the number of the state it makes."""
        if not isinstance(rows, list):
            raise BadBundle(0, "rows")
        web = self.web_at()
        for place, deed in enumerate(rows):
            word = _word_of_refusal(web, deed)
            if word is not None:
                raise BadBundle(place, word)
        self._states.append(State(web, self._here))
        self._here = len(self._states) - 1
        self._undone = []
        return self._here

    def undo(self):
        """Undoes the state that stands: the one that it came from stands."""
        origin = self._states[self._here].origin
        if origin is None:
            raise NoDeed("the first state is not undone")
        self._undone = [self._here] + self._undone
        self._here = origin

    def redo(self):
        """Does again the state that was undone last."""
        if not self._undone:
            raise NoDeed("there is nothing to be done again")
        self._here = self._undone[0]
        self._undone = self._undone[1:]

    def here(self):
        """The number of the state that stands."""
        return self._here

    def many_states(self):
        """How many states there are."""
        return len(self._states)

    def web_at(self, state=None):
        """A copy of the web of a state, of the one that stands by None."""
        return self._state(state).web.copied()

    def ask(self, text, state=None):
        """The rows that a question's text is told by a state."""
        question = question_of(text)
        return question.told(self._state(state).web)

    def lines(self):
        """The lines that write the book."""
        lines = []
        for number, state in enumerate(self._states):
            lines.append(_state_line(number, state))
            lines.extend(web_lines(state.web))
        lines.append(f"at {number_text(self._here)}")
        lines.append(" ".join(["undone"] + [number_text(number) for number in self._undone]))
        return lines

    def _state(self, number):
        if number is None:
            return self._states[self._here]
        if not is_among(number, 0, len(self._states) - 1):
            raise NoState("no state of the book has this number")
        return self._states[number]


def _state_line(number, state):
    if state.origin is None:
        return f"state {number_text(number)}"
    return f"state {number_text(number)} {number_text(state.origin)}"


def _words_at(lines, place):
    """The words of the line at a place; None where none stands, or it has none."""
    return words_of(lines[place]) if place < len(lines) else None


def _begins_state(words, number):
    """Whether words begin the state of a number."""
    if number == 0:
        return words == ["state", "0"]
    if words is None or len(words) != 3 or words[0] != "state":
        return False
    return number_of(words[1]) == number and is_among(number_of(words[2]), 0, number - 1)


def _behind_given(lines, place):
    """The place behind the next line that ends a web, or behind all lines."""
    while place < len(lines):
        words = words_of(lines[place])
        place += 1
        if words is not None and words[0] == "given":
            return place
    return place


def _web_between(lines, start, end):
    """The web that the lines from start up to end write."""
    try:
        return web_of(lines[start:end])
    except BadLine as error:
        raise BadLine(start + error.place) from None


def _states_of(lines):
    """The states that lines begin with, and the place behind them."""
    states = []
    place = 0
    words = _words_at(lines, place)
    while _begins_state(words, len(states)):
        origin = number_of(words[2]) if states else None
        end = _behind_given(lines, place + 1)
        states.append(State(_web_between(lines, place + 1, end), origin))
        place = end
        words = _words_at(lines, place)
    return states, place


def _here_of(words, states):
    """The number of the state that stands, by the words "at N"; else None."""
    if words is None or len(words) != 2 or words[0] != "at":
        return None
    number = number_of(words[1])
    return number if is_among(number, 0, len(states) - 1) else None


def _undone_of(words, states, here):
    """The states that may be done again, by "undone" and numbers; else None."""
    if words is None or words[0] != "undone":
        return None
    undone = []
    ahead = here
    for word in words[1:]:
        number = number_of(word)
        if not is_among(number, 0, len(states) - 1) or states[number].origin != ahead:
            return None
        undone.append(number)
        ahead = number
    return undone


def book_of(lines):
    """The book that lines write."""
    if not isinstance(lines, list):
        raise BadLine(0)
    states, place = _states_of(lines)
    here = _here_of(_words_at(lines, place), states)
    if here is None:
        raise BadLine(place)
    undone = _undone_of(_words_at(lines, place + 1), states, here)
    if undone is None:
        raise BadLine(place + 1)
    if len(lines) > place + 2:
        raise BadLine(place + 2)
    book = Book(states[0].web)
    book._states = states
    book._here = here
    book._undone = undone
    return book
