"""Steps along ties, and where one comes by them."""

from reachbook.errors import NoPoint
from reachbook.words import is_name


def need_all(web, names):
    """Refuses the first of some things that is no point of the web."""
    points = web.points()
    for name in names:
        # The kind first: a thing of another kind might call itself equal to a name.
        if not is_name(name) or name not in points:
            raise NoPoint(name)


def names_in(web, came):
    """The names in came, in the web's order."""
    return [name for name in web.points() if name in came]


# Steps are, for each point, a list of (number, point come to). They stand by
# the ties' numbers whichever end is the tail, so that what is told by them
# hangs on numbers and ends alone.


def plain_steps(names, ties):
    """The steps along ties, one-way ones taken as plain ones."""
    steps = {name: [] for name in names}
    for tie in ties:
        steps[tie.tail].append((tie.number, tie.head))
        steps[tie.head].append((tie.number, tie.tail))
    return steps


def free_steps(names, ties):
    """The steps along ties as they may be gone."""
    steps = {name: [] for name in names}
    for tie in ties:
        steps[tie.tail].append((tie.number, tie.head))
        if not tie.is_oneway:
            steps[tie.head].append((tie.number, tie.tail))
    return steps


def came_from(steps, one):
    """The points that are come to from one, those by fewer steps ahead.

    A dict from each to (number, point ahead), None for the first one.
    """
    came = {one: None}
    row = [one]
    done = 0
    while done < len(row):
        ahead = row[done]
        done += 1
        for number, name in steps[ahead]:
            if name not in came:
                came[name] = (number, ahead)
                row.append(name)
    return came


def numbers_to(came, target):
    """The numbers of the ties by which target was come to, in order."""
    numbers = []
    step = came[target]
    while step is not None:
        number, ahead = step
        numbers.append(number)
        step = came[ahead]
    return numbers[::-1]
