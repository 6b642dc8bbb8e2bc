"""Loads, fewest ties, ways apart."""

from reachbook.passed import border_by, need_points, way_by
from reachbook.pieces import joining
from reachbook.walks import came_from, free_steps, names_in, need_all


class Forest:
    """The numbers of a forest's ties, rising, and their load, all together."""

    def __init__(self, numbers, load):
        self.numbers = list(numbers)
        self.load = load


class Least:
    """A least way, its load, and the heights of all points that are come to."""

    def __init__(self, numbers, load, heights):
        self.numbers = list(numbers)
        self.load = load
        self.heights = dict(heights)


class Fewest:
    """A way of fewest ties, and the layers of all points that are come to."""

    def __init__(self, numbers, layers):
        self.numbers = list(numbers)
        self.layers = [list(layer) for layer in layers]


class Apart:
    """Ways apart, and a wall of as many ties."""

    def __init__(self, ways, wall):
        self.ways = [list(way) for way in ways]
        self.wall = list(wall)


def lightest(web):
    """The lightest forest; one-way ties count as plain."""
    ties = sorted(web.ties(), key=lambda tie: (tie.load, tie.number))
    kept = joining(web.points(), ties)
    return Forest(sorted([tie.number for tie in kept]), sum([tie.load for tie in kept]))


def _least_came(web, one):
    """What is come to from one by least ways, and the heights of these points."""
    steps = free_steps(web.points(), web.ties())
    loads = {tie.number: tie.load for tie in web.ties()}
    came = {one: None}
    heights = {one: 0}
    left = [one]
    while left:
        ahead = min(left, key=lambda point: heights[point])
        left.remove(ahead)
        for number, name in steps[ahead]:
            height = heights[ahead] + loads[number]
            if name not in came:
                left.append(name)
            # No more than less will do: with loads of 0 a point that is done
            # could else be come to anew, and the way to it never end.
            if name not in came or height < heights[name]:
                came[name] = (number, ahead)
                heights[name] = height
    return came, heights


def least_way(web, one, other):
    """The Least way from one to other, or the Border of all that is come to."""
    need_all(web, [one, other])
    came, heights = _least_came(web, one)
    if other not in came:
        return border_by(web, came)
    ordered = {name: heights[name] for name in names_in(web, came)}
    return Least(way_by(came, other), heights[other], ordered)


def _layers(web, came):
    """The points that are come to, by how many ties the shortest way has."""
    depths = {}
    # In came those by fewer steps stand ahead, so the point ahead is known.
    for name, step in came.items():
        depths[name] = 0 if step is None else depths[step[1]] + 1
    layers = [[] for _ in range(max(depths.values()) + 1)]
    for name in names_in(web, came):
        layers[depths[name]].append(name)
    return layers


def fewest(web, one, other):
    """The way of Fewest ties from one to other, or the Border of all that is come to."""
    need_all(web, [one, other])
    came = came_from(free_steps(web.points(), web.ties()), one)
    if other not in came:
        return border_by(web, came)
    return Fewest(way_by(came, other), _layers(web, came))


# Which way ties are gone, gone tells by their numbers: 1 from tail to head, -1
# from head to tail, 0 not at all. So no tie is ever gone both ways at once.


def _open_steps(web, gone):
    """The steps by which one way more could go, by taking back steps gone, too."""
    steps = {name: [] for name in web.points()}
    for tie in web.ties():
        least = 0 if tie.is_oneway else -1
        if gone[tie.number] < 1:
            steps[tie.tail].append((tie.number, tie.head))
        if gone[tie.number] > least:
            steps[tie.head].append((tie.number, tie.tail))
    return steps


def _gone_steps(web, gone):
    """The steps that are gone."""
    steps = {name: [] for name in web.points()}
    for tie in web.ties():
        if gone[tie.number] == 1:
            steps[tie.tail].append((tie.number, tie.head))
        if gone[tie.number] == -1:
            steps[tie.head].append((tie.number, tie.tail))
    return steps


def _go(web, gone, came, other):
    """Goes the way by which other was come to."""
    name = other
    while came[name] is not None:
        number, ahead = came[name]
        gone[number] += 1 if web.tie_of(number).tail == ahead else -1
        name = ahead


def _ways_gone(web, gone, one, other):
    """The ways from one to other that make up the steps gone; these are used up."""
    ways = []
    came = came_from(_gone_steps(web, gone), one)
    while other in came:
        way = way_by(came, other)
        ways.append(way)
        for number in way:
            gone[number] = 0
        came = came_from(_gone_steps(web, gone), one)
    return ways


def _ties_out(web, came):
    """The numbers of the ties that lead out of the points in came, rising."""
    numbers = []
    for tie in web.ties():
        leads_out = tie.tail in came and tie.head not in came
        leads_back_out = tie.head in came and tie.tail not in came and not tie.is_oneway
        if leads_out or leads_back_out:
            numbers.append(tie.number)
    return numbers


def ways_apart(web, one, other):
    """As many ways from one to other as there are without a tie in two, and a wall."""
    need_points(web, [one, other])
    gone = {tie.number: 0 for tie in web.ties()}
    came = came_from(_open_steps(web, gone), one)
    while other in came:
        _go(web, gone, came, other)
        came = came_from(_open_steps(web, gone), one)
    # Each tie out of what is still come to is gone by a way, and by one only.
    return Apart(_ways_gone(web, gone, one, other), _ties_out(web, came))
