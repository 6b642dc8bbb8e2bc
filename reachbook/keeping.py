"""Answers that are kept as long as nothing changes that they lean on."""

from reachbook.asking import question_of
from reachbook.pieces import pieces

MOST_KEPT = 40


class Told:
    """The rows of an answer, and whether it was reckoned anew."""

    def __init__(self, rows, is_anew):
        self.rows = list(rows)
        self.is_anew = is_anew


class Answer:
    """An answer that is kept, the points that it leans on, and whether loads tell."""

    def __init__(self, rows, leans, by_loads):
        self.rows = list(rows)
        # Empty where it leans on the whole web: each other one leans at least
        # on the points that it was asked about.
        self.leans = list(leans)
        self.by_loads = by_loads

    def is_touched(self, names):
        """Whether a deed that touches these points, and the whole web, touches it."""
        return not self.leans or any(name in names for name in self.leans)


def _beside(web, names):
    """All points of the pieces in which some names lie, where they are points."""
    found = []
    for piece in pieces(web):
        if any(name in piece for name in names):
            found.extend(piece)
    return found


class Keeper:
    """A web that changes, and answers that are kept."""

    def __init__(self, web):
        self._web = web.copied()
        # From texts to Answers, the one asked longest ago first.
        self._kept = {}

    def ask(self, text):
        """Tells what a question's text asks, anew where it isn't kept."""
        question = question_of(text)
        # The text as it is made anew: so no thing that was handed in is kept.
        asked = question.text()
        is_anew = asked not in self._kept
        if is_anew:
            answer = self._reckoned(question)
        else:
            answer = self._kept.pop(asked)
        self._kept[asked] = answer
        self._drop_eldest()
        return Told(answer.rows, is_anew)

    def kept(self):
        """The texts whose answers are kept, the one asked longest ago first."""
        return list(self._kept)

    def standing(self):
        """A copy of the web as it stands."""
        return self._web.copied()

    def put_point(self, name):
        """Puts a point as the web does."""
        ahead = self.standing()
        self._web.put_point(name)
        self._forget(self._touched(ahead, [name]))

    def drop_point(self, name):
        """Drops a point as the web does."""
        ahead = self.standing()
        self._web.drop_point(name)
        self._forget(self._touched(ahead, [name]))

    def rename(self, name, other):
        """Calls a point otherwise as the web does."""
        ahead = self.standing()
        self._web.rename(name, other)
        self._forget(self._touched(ahead, [name, other]))

    def put_tie(self, tail, head, load=0, is_oneway=False):
        """Puts a tie as the web does, and tells its number."""
        ahead = self.standing()
        number = self._web.put_tie(tail, head, load, is_oneway)
        self._forget(self._touched(ahead, [tail, head]))
        return number

    def drop_tie(self, number):
        """Drops a tie as the web does."""
        ahead = self.standing()
        self._web.drop_tie(number)
        tie = ahead.tie_of(number)
        self._forget(self._touched(ahead, [tie.tail, tie.head]))

    def set_load(self, number, load):
        """Gives a tie another load as the web does."""
        ahead = self.standing()
        self._web.set_load(number, load)
        tie = ahead.tie_of(number)
        self._forget_loads(self._touched(ahead, [tie.tail, tie.head]))

    def join(self, name, other):
        """Joins other to name as the web does."""
        ahead = self.standing()
        self._web.join(name, other)
        self._forget(self._touched(ahead, [name, other]))

    def part(self, name, other, numbers):
        """Parts name as the web does."""
        ahead = self.standing()
        self._web.part(name, other, numbers)
        self._forget(self._touched(ahead, [name, other]))

    def _reckoned(self, question):
        """The answer to a question, reckoned of the web as it stands."""
        rows = question.told(self._web)
        return Answer(rows, _beside(self._web, question.matter()), question.has_loads())

    def _drop_eldest(self):
        if len(self._kept) > MOST_KEPT:
            eldest = self.kept()[0]
            del self._kept[eldest]

    def _touched(self, ahead, names):
        """The points that a deed touches: beside names, ahead of it and behind it."""
        return _beside(ahead, names) + _beside(self._web, names)

    def _forget(self, names):
        """Keeps no more what a deed that touches these points touches."""
        self._kept = {
            text: answer for text, answer in self._kept.items()
            if not answer.is_touched(names)
        }

    def _forget_loads(self, names):
        """Keeps no more what a change of a load beside these points touches."""
        self._kept = {
            text: answer for text, answer in self._kept.items()
            if not (answer.by_loads and answer.is_touched(names))
        }
