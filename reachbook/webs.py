"""A web of points and ties, and the lines that write it."""

from reachbook.errors import (
    BadLine, BadLoad, BadName, BadTie, HasTies, NoPoint, NoTie, SamePoint,
    TooMany, Twice, WebError,
)
from reachbook.words import (
    is_among, is_name, is_whole, number_of, number_text, words_of,
)

MOST = 10 ** 60
MOST_POINTS = 16
MOST_TIES = 48


class Tie:
    """A tie of a web, as it was when it was told."""

    def __init__(self, number, tail, head, load, is_oneway):
        self.number = number
        self.tail = tail
        self.head = head
        self.load = load
        self.is_oneway = is_oneway


def _between(tie, tail, head):
    """A tie like another one, from tail to head."""
    return Tie(tie.number, tail, head, tie.load, tie.is_oneway)


def _turned(tie, name, other):
    """A tie like another one, ending at other where that one ends at name."""
    tail = other if tie.tail == name else tie.tail
    head = other if tie.head == name else tie.head
    return _between(tie, tail, head)


class Web:
    """A web: points in the order in which they were put, ties by numbers."""

    def __init__(self):
        self._points = []
        # From numbers to Ties, by rising numbers. A Tie in it is never
        # changed, only replaced: so copies of the web may share it.
        self._ties = {}
        self._given = 0

    def points(self):
        """The names of all points, in order."""
        return list(self._points)

    def ties(self):
        """All ties, by rising numbers."""
        return [_between(tie, tie.tail, tie.head) for tie in self._ties.values()]

    def given(self):
        """The greatest number that was ever given to a tie, 0 at first."""
        return self._given

    def put_point(self, name):
        """Puts a point behind all others."""
        self._need_new_point(name)
        self._points.append(name)

    def drop_point(self, name):
        """Drops a point at which no tie ends."""
        self._need_point(name)
        for tie in self._ties.values():
            if name in (tie.tail, tie.head):
                raise HasTies("a tie ends at the point")
        self._points.remove(name)

    def rename(self, name, other):
        """Calls a point otherwise; it keeps its place and its ties."""
        self._need_point(name)
        self._need_new_name(other)
        self._points[self._points.index(name)] = other
        self._ties = {
            number: _turned(tie, name, other)
            for number, tie in self._ties.items()
        }

    def put_tie(self, tail, head, load=0, is_oneway=False):
        """Puts a tie from tail to head, and tells its number."""
        self._need_point(tail)
        self._need_point(head)
        if tail == head:
            raise BadTie("a tie goes from a point to another one")
        if not isinstance(is_oneway, bool):
            raise BadTie("whether a tie is one-way is True or False")
        _need_load(load)
        if len(self._ties) >= MOST_TIES:
            raise TooMany("the web has no room for another tie")
        self._given += 1
        self._ties[self._given] = Tie(self._given, tail, head, load, is_oneway)
        return self._given

    def tie_of(self, number):
        """The tie of a number."""
        self._need_tie(number)
        tie = self._ties[number]
        return _between(tie, tie.tail, tie.head)

    def drop_tie(self, number):
        """Drops a tie; its number is not given again."""
        self._need_tie(number)
        del self._ties[number]

    def set_load(self, number, load):
        """Gives a tie another load."""
        self._need_tie(number)
        _need_load(load)
        tie = self._ties[number]
        self._ties[number] = Tie(tie.number, tie.tail, tie.head, load, tie.is_oneway)

    def join(self, name, other):
        """Joins other to name: its ties end at name from now on."""
        self._need_point(name)
        self._need_point(other)
        if name == other:
            raise SamePoint("a point is joined to another one")
        self._points.remove(other)
        turned = [_turned(tie, other, name) for tie in self._ties.values()]
        # Those between the two would now go from a point to itself.
        self._ties = {
            tie.number: tie for tie in turned if tie.tail != tie.head
        }

    def part(self, name, other, numbers):
        """Parts name: other is put, and the numbers' ties end there from now on."""
        self._need_point(name)
        self._need_new_point(other)
        self._need_ties_at(name, numbers)
        self._points.append(other)
        for number in numbers:
            self._ties[number] = _turned(self._ties[number], name, other)

    def copied(self):
        """A web alike, its numbers too."""
        web = Web()
        web._points = list(self._points)
        web._ties = dict(self._ties)
        web._given = self._given
        return web

    # The kind is asked first in all of these: a thing of another kind might
    # call itself equal to a name or to a number, or be no key of a dict.

    def _need_point(self, name):
        if not is_name(name) or name not in self._points:
            raise NoPoint(name)

    def _need_new_name(self, name):
        if not is_name(name):
            raise BadName("a name is 1 to 12 small letters")
        if name in self._points:
            raise Twice("a point is called so already")

    def _need_new_point(self, name):
        self._need_new_name(name)
        if len(self._points) >= MOST_POINTS:
            raise TooMany("the web has no room for another point")

    def _need_tie(self, number):
        if not is_whole(number) or number not in self._ties:
            raise NoTie(number)

    def _need_ties_at(self, name, numbers):
        if not isinstance(numbers, list):
            raise NoTie(None)
        seen = set()
        for number in numbers:
            self._need_tie(number)
            tie = self._ties[number]
            if name not in (tie.tail, tie.head) or number in seen:
                raise NoTie(number)
            seen.add(number)


def _need_load(load):
    if not is_among(load, 0, MOST):
        raise BadLoad("a load is a whole number from 0 to 10 ** 60")


def _tie_line(tie):
    word = "way" if tie.is_oneway else "tie"
    number = number_text(tie.number)
    return f"{word} {number} {tie.tail} {tie.head} {number_text(tie.load)}"


def web_lines(web):
    """The lines that write a web."""
    lines = [f"point {name}" for name in web.points()]
    lines.extend([_tie_line(tie) for tie in web.ties()])
    lines.append(f"given {number_text(web.given())}")
    return lines


def _put_point_words(web, words):
    """Puts the point that words write; False where they can't stand."""
    # A number was given as soon as a tie was read: no point stands behind.
    if len(words) != 2 or web.given() > 0:
        return False
    web.put_point(words[1])
    return True


def _put_tie_words(web, words):
    """Puts the tie that words write; False where they can't stand."""
    if len(words) != 5:
        return False
    number = number_of(words[1])
    load = number_of(words[4])
    if number is None or load is None or not web.given() < number <= MOST:
        return False
    web._given = number - 1
    web.put_tie(words[2], words[3], load, words[0] == "way")
    return True


def _set_given_words(web, words):
    """Sets the number that words write as given; False where they can't stand."""
    if len(words) != 2:
        return False
    number = number_of(words[1])
    if number is None or not web.given() <= number <= MOST:
        return False
    web._given = number
    return True


def _take_words(web, words):
    """Puts into a web what a line's words write; False where they can't stand."""
    if words[0] == "point":
        return _put_point_words(web, words)
    if words[0] in ("tie", "way"):
        return _put_tie_words(web, words)
    return words[0] == "given" and _set_given_words(web, words)


def _stands(web, words):
    """Takes words into a web; False where they are none, or the web refuses."""
    if words is None:
        return False
    try:
        return _take_words(web, words)
    except WebError:
        return False


def web_of(lines):
    """The web that lines write."""
    if not isinstance(lines, list):
        raise BadLine(0)
    web = Web()
    is_ended = False
    for place, line in enumerate(lines):
        words = words_of(line)
        if is_ended or not _stands(web, words):
            raise BadLine(place)
        is_ended = words[0] == "given"
    if not is_ended:
        raise BadLine(len(lines))
    return web
