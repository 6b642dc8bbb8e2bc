"""Ties and points that must be passed. One-way ties count as plain."""

from reachbook.errors import SamePoint
from reachbook.pieces import Border, grouped, way_or_border
from reachbook.walks import came_from, names_in, need_all, numbers_to, plain_steps


class Around:
    """The numbers of the ties of a second way around a tie, in order."""

    def __init__(self, numbers):
        self.numbers = list(numbers)


class Parted:
    """The side that a tie parts: what is come to from its tail without it."""

    def __init__(self, names):
        self.names = list(names)


def need_points(web, names):
    """Refuses what is no point of the web, then a point that stands twice."""
    need_all(web, names)
    if len(set(names)) < len(names):
        raise SamePoint("unlike points are needed")


def border_by(web, came):
    """The Border of the names in came."""
    return Border(names_in(web, came))


def way_by(came, target):
    """The numbers of the ties by which target was come to, in order."""
    return numbers_to(came, target)


def _came_plainly(web, one):
    return came_from(plain_steps(web.points(), web.ties()), one)


def _came_without(web, one, number):
    """What is come to from one without the tie of a number."""
    ties = [tie for tie in web.ties() if tie.number != number]
    return came_from(plain_steps(web.points(), ties), one)


def _came_past(web, one, name):
    """What is come to from one without passing a point."""
    ties = [tie for tie in web.ties() if name not in (tie.tail, tie.head)]
    return came_from(plain_steps(web.points(), ties), one)


def must_tie(web, number):
    """The way Around a tie, or the side that is Parted by it."""
    tie = web.tie_of(number)
    came = _came_without(web, tie.tail, number)
    if tie.head in came:
        return Around(way_by(came, tie.head))
    return Parted(names_in(web, came))


def must_ties(web, one, other):
    """The numbers of the ties that every way from one to other has, or a Border."""
    need_points(web, [one, other])
    came = _came_plainly(web, one)
    if other not in came:
        return border_by(web, came)
    # What every way has, this one has.
    numbers = sorted(way_by(came, other))
    return [number for number in numbers if other not in _came_without(web, one, number)]


def must_points(web, one, other):
    """The points that every way from one to other passes, or a Border."""
    need_points(web, [one, other])
    came = _came_plainly(web, one)
    if other not in came:
        return border_by(web, came)
    names = [name for name in web.points() if name not in (one, other)]
    return [name for name in names if other not in _came_past(web, one, name)]


def way_past(web, one, other, name):
    """A Way from one to other that doesn't pass a point, or a Border."""
    need_points(web, [one, other, name])
    return way_or_border(web, _came_past(web, one, name), other)


def leaves(web):
    """The pieces that are left without the ties around which no second way leads."""
    ties = [
        tie for tie in web.ties()
        if tie.head in _came_without(web, tie.tail, tie.number)
    ]
    return grouped(web.points(), ties)
