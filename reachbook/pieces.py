"""Plain ties: pieces, forests, rings, two sides. One-way ties count as plain."""

from reachbook.errors import BadForest, NoTie
from reachbook.walks import came_from, names_in, need_all, numbers_to, plain_steps
from reachbook.words import is_whole


class Way:
    """The numbers of a way's ties, in order."""

    def __init__(self, numbers):
        self.numbers = list(numbers)


class Border:
    """All points that are come to, in the web's order."""

    def __init__(self, names):
        self.names = list(names)


class Sides:
    """A side, 0 or 1, for each point, unlike at the ends of each tie."""

    def __init__(self, sides):
        self.sides = dict(sides)


class OddRing:
    """The numbers of the ties of a ring of an odd count of ties."""

    def __init__(self, numbers):
        self.numbers = list(numbers)


def grouped(names, ties):
    """Lists of the names that hang together by some ties."""
    steps = plain_steps(names, ties)
    groups = []
    seen = {}
    for name in names:
        if name not in seen:
            came = came_from(steps, name)
            groups.append([point for point in names if point in came])
            seen.update(came)
    return groups


def pieces(web):
    """The web's pieces, by their first points."""
    return grouped(web.points(), web.ties())


def way_or_border(web, came, other):
    """The Way by which other was come to, or the Border of all that was."""
    if other in came:
        return Way(numbers_to(came, other))
    return Border(names_in(web, came))


def together(web, one, other):
    """A Way from one to other, or the Border that is the piece of one."""
    need_all(web, [one, other])
    came = came_from(plain_steps(web.points(), web.ties()), one)
    return way_or_border(web, came, other)


def joining(names, ties):
    """Those of the ties that join what the ones ahead of them left apart."""
    mark = {name: name for name in names}
    kept = []
    for tie in ties:
        stays = mark[tie.tail]
        goes = mark[tie.head]
        if stays != goes:
            kept.append(tie)
            for name in names:
                if mark[name] == goes:
                    mark[name] = stays
    return kept


def forest(web):
    """The numbers of a forest's ties, rising."""
    return [tie.number for tie in joining(web.points(), web.ties())]


def _forest_ties(web, numbers):
    """The ties of some numbers; BadForest where they are no forest."""
    if not isinstance(numbers, list):
        raise BadForest("a forest is a list of numbers")
    by_number = {tie.number: tie for tie in web.ties()}
    for number in numbers:
        # The kind first: a thing of another kind might be no key of a dict.
        if not is_whole(number) or number not in by_number:
            raise BadForest("a forest is of ties of the web")
    ties = [by_number[number] for number in numbers]
    names = web.points()
    # A number that stands twice is found here, too: its tie joins just once.
    if len(joining(names, ties)) < len(ties):
        raise BadForest("there is a ring among the ties, or one stands twice")
    if len(ties) < len(joining(names, web.ties())):
        raise BadForest("a piece doesn't hang together by the ties alone")
    return ties


def _ring(names, ties, tie):
    """The ring that a tie makes with the ties of a forest, on from its head."""
    came = came_from(plain_steps(names, ties), tie.head)
    return [tie.number] + numbers_to(came, tie.tail)


def ring_by(web, numbers, number):
    """The ring that a number's tie makes with the forest of some numbers."""
    ties = _forest_ties(web, numbers)
    tie = web.tie_of(number)
    if number in numbers:
        raise NoTie(number)
    return _ring(web.points(), ties, tie)


def _sides_by(names, ties):
    """Sides that are unlike at the ends of each of a forest's ties."""
    steps = plain_steps(names, ties)
    side = {}
    for first in names:
        if first not in side:
            came = came_from(steps, first)
            for name, step in came.items():
                side[name] = 0 if step is None else 1 - side[step[1]]
    return {name: side[name] for name in names}


def sides(web):
    """The web's Sides, or an OddRing where there are none."""
    names = web.points()
    ties = joining(names, web.ties())
    # Along a forest there is no choice but the first point's side: where its
    # sides are alike at the ends of a tie, that tie's ring is an odd one.
    side = _sides_by(names, ties)
    for tie in web.ties():
        if side[tie.tail] == side[tie.head]:
            return OddRing(_ring(names, ties, tie))
    return Sides(side)
