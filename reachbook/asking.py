"""Questions: what is asked of a web by a text, and the rows that are told."""

from reachbook.errors import BadText
from reachbook.knots import comes, knots, ring_through, starts
from reachbook.loads import fewest, least_way, lightest, ways_apart
from reachbook.passed import leaves, must_points, must_ties, way_past
from reachbook.pieces import Border, OddRing, pieces, sides, together
from reachbook.words import is_name, number_text

# From a question's word to how many names stand behind it.
NAMES_BEHIND = {
    "together": 2, "comes": 2, "must": 2, "points": 2, "past": 3, "ring": 2,
    "least": 2, "fewest": 2, "apart": 2, "pieces": 0, "knots": 0, "sides": 0,
    "lightest": 0, "starts": 0, "leaves": 0,
}


def _row(word, words):
    """A row of a word and what stands behind it."""
    return " ".join([word] + words)


def _number_row(word, numbers):
    """A row of a word and numbers."""
    return _row(word, [number_text(number) for number in numbers])


def _name_rows(word, groups):
    """A row of a word and names for each of some lists of names."""
    return [_row(word, names) for names in groups]


def _border_rows(border):
    return [_row("border", border.names)]


def _way_rows(found):
    """The row of a Way, or of a Border."""
    if isinstance(found, Border):
        return _border_rows(found)
    return [_number_row("way", found.numbers)]


class Question:
    """What is asked of a web: a word, and the names behind it."""

    WORD = ""

    def text(self):
        """The text that asks the question."""
        return _row(self.WORD, self.matter())

    def matter(self):
        """The names that are asked about; none where it is the whole web."""
        return []

    def has_loads(self):
        """Whether what is told hangs on loads."""
        return False

    def told(self, web):
        """The rows that the question tells of a web."""
        raise NotImplementedError("each kind of question tells rows of its own")


class OfTwo(Question):
    """A question of two names."""

    def __init__(self, one, other):
        self.one = one
        self.other = other

    def matter(self):
        """The two names."""
        return [self.one, self.other]


class HangsTogether(OfTwo):
    """Whether two points hang together."""

    WORD = "together"

    def told(self, web):
        """A way, or a border."""
        return _way_rows(together(web, self.one, self.other))


class ComesThere(OfTwo):
    """Whether one comes from a point to another."""

    WORD = "comes"

    def told(self, web):
        """A way, or a border."""
        return _way_rows(comes(web, self.one, self.other))


class MustTies(OfTwo):
    """Which ties must be passed between two points."""

    WORD = "must"

    def told(self, web):
        """The ties, or a border."""
        found = must_ties(web, self.one, self.other)
        if isinstance(found, Border):
            return _border_rows(found)
        return [_number_row("ties", found)]


class MustPoints(OfTwo):
    """Which points must be passed between two others."""

    WORD = "points"

    def told(self, web):
        """The points, or a border."""
        found = must_points(web, self.one, self.other)
        if isinstance(found, Border):
            return _border_rows(found)
        return [_row("points", found)]


class PastPoint(Question):
    """Which way between two points doesn't pass a third one."""

    WORD = "past"

    def __init__(self, one, other, name):
        self.one = one
        self.other = other
        self.name = name

    def matter(self):
        """The three names."""
        return [self.one, self.other, self.name]

    def told(self, web):
        """A way, or a border."""
        return _way_rows(way_past(web, self.one, self.other, self.name))


class RingThrough(OfTwo):
    """A ring through two points."""

    WORD = "ring"

    def told(self, web):
        """The ring's ties, or a border."""
        found = ring_through(web, self.one, self.other)
        if isinstance(found, Border):
            return _border_rows(found)
        return [_number_row("ring", found.numbers)]


class LeastWay(OfTwo):
    """A way of the least load."""

    WORD = "least"

    def has_loads(self):
        """True: loads tell which way is least."""
        return True

    def told(self, web):
        """The way, its load and all heights, or a border."""
        found = least_way(web, self.one, self.other)
        if isinstance(found, Border):
            return _border_rows(found)
        heights = [
            f"{name}={number_text(found.heights[name])}"
            for name in web.points() if name in found.heights
        ]
        return [
            _number_row("way", found.numbers),
            _number_row("load", [found.load]),
            _row("heights", heights),
        ]


class FewestTies(OfTwo):
    """A way of fewest ties."""

    WORD = "fewest"

    def told(self, web):
        """The way and the layers, or a border."""
        found = fewest(web, self.one, self.other)
        if isinstance(found, Border):
            return _border_rows(found)
        return [_number_row("way", found.numbers)] + _name_rows("layer", found.layers)


class WaysApart(OfTwo):
    """Ways without a tie in two of them, and a wall."""

    WORD = "apart"

    def told(self, web):
        """The ways, if there are some, and the wall."""
        found = ways_apart(web, self.one, self.other)
        rows = [_number_row("way", numbers) for numbers in found.ways]
        return rows + [_number_row("wall", found.wall)]


class ThePieces(Question):
    """All pieces."""

    WORD = "pieces"

    def told(self, web):
        """A row for each piece."""
        return _name_rows("piece", pieces(web))


class TheKnots(Question):
    """All knots."""

    WORD = "knots"

    def told(self, web):
        """A row for each knot."""
        return _name_rows("knot", knots(web))


class TwoSides(Question):
    """Two sides, or an odd ring."""

    WORD = "sides"

    def told(self, web):
        """The names of both sides, or the ring's ties."""
        found = sides(web)
        if isinstance(found, OddRing):
            return [_number_row("ring", found.numbers)]
        names = web.points()
        return [
            _row("first", [name for name in names if found.sides[name] == 0]),
            _row("second", [name for name in names if found.sides[name] == 1]),
        ]


class LightestForest(Question):
    """The lightest forest."""

    WORD = "lightest"

    def has_loads(self):
        """True: loads tell which forest is lightest."""
        return True

    def told(self, web):
        """The forest's ties, and their load."""
        found = lightest(web)
        return [_number_row("ties", found.numbers), _number_row("load", [found.load])]


class TheStarts(Question):
    """The fewest points from which all are come to."""

    WORD = "starts"

    def told(self, web):
        """One row of these points."""
        return [_row("starts", starts(web))]


class TheLeaves(Question):
    """What is left without the ties around which no second way leads."""

    WORD = "leaves"

    def told(self, web):
        """A row for each piece that is left."""
        return _name_rows("piece", leaves(web))


def _need_names(words, many):
    """Refuses what stands behind the first word, if it isn't just so many names."""
    place = len(words[0])
    for at, word in enumerate(words[1:]):
        if at >= many or not is_name(word):
            raise BadText(place + 1)
        place += 1 + len(word)
    if len(words) <= many:
        raise BadText(place)


def _question(word, names):
    """The question of a word and its names."""
    match word:
        case "together":
            return HangsTogether(*names)
        case "comes":
            return ComesThere(*names)
        case "must":
            return MustTies(*names)
        case "points":
            return MustPoints(*names)
        case "past":
            return PastPoint(*names)
        case "ring":
            return RingThrough(*names)
        case "least":
            return LeastWay(*names)
        case "fewest":
            return FewestTies(*names)
        case "apart":
            return WaysApart(*names)
        case "pieces":
            return ThePieces()
        case "knots":
            return TheKnots()
        case "sides":
            return TwoSides()
        case "lightest":
            return LightestForest()
        case "starts":
            return TheStarts()
        case _:
            return TheLeaves()


def question_of(text):
    """The question that a text asks."""
    if not isinstance(text, str):
        raise BadText(0)
    words = text.split(" ")
    if words[0] not in NAMES_BEHIND:
        raise BadText(0)
    _need_names(words, NAMES_BEHIND[words[0]])
    return _question(words[0], words[1:])
