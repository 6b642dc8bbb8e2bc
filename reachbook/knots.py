"""Where one comes along ties as they may be gone, and knots."""

from reachbook.passed import need_points
from reachbook.pieces import Border, way_or_border
from reachbook.walks import came_from, free_steps, need_all


class Ring:
    """The numbers of the ties of a way there and of a way back."""

    def __init__(self, numbers):
        self.numbers = list(numbers)


def comes(web, one, other):
    """A Way from one to other, or the Border of all that one comes to."""
    need_all(web, [one, other])
    came = came_from(free_steps(web.points(), web.ties()), one)
    return way_or_border(web, came, other)


def _knots_by_points(web):
    """The knots, by their first points."""
    names = web.points()
    steps = free_steps(names, web.ties())
    came = {name: came_from(steps, name) for name in names}
    found = []
    for name in names:
        knot = [point for point in names if point in came[name] and name in came[point]]
        if knot[0] == name:
            found.append(knot)
    return found


def _is_led_into(ties, knot, names):
    """Whether a tie leads into a knot from one of the names outside of it."""
    # A plain tie has both its ends in one knot: just heads are led into here.
    return any(
        tie.head in knot and tie.tail in names and tie.tail not in knot
        for tie in ties
    )


def _first_free(ties, left):
    """The first of the knots left into which no tie leads from another one."""
    names = [name for knot in left for name in knot]
    free = [knot for knot in left if not _is_led_into(ties, knot, names)]
    return free[0]


def knots(web):
    """The knots, in their order."""
    ties = web.ties()
    left = _knots_by_points(web)
    order = []
    while left:
        knot = _first_free(ties, left)
        left.remove(knot)
        order.append(knot)
    return order


def ring_through(web, one, other):
    """A Ring through two points, or the Border that the one or the other has."""
    need_points(web, [one, other])
    there = comes(web, one, other)
    if isinstance(there, Border):
        return there
    back = comes(web, other, one)
    if isinstance(back, Border):
        return back
    return Ring(there.numbers + back.numbers)


def starts(web):
    """The first point of each knot into which no tie leads from another one."""
    names = web.points()
    ties = web.ties()
    return [knot[0] for knot in _knots_by_points(web) if not _is_led_into(ties, knot, names)]
