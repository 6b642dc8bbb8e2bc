"""What several tests use."""

from reachbook.errors import WebError
from reachbook.webs import Web, web_lines, web_of

NAMES = list("abcdefghijklmnop")


class Alike:
    """Calls itself equal to all things, and is none of them."""

    def __eq__(self, other):
        return True

    def __hash__(self):
        return 1


def web_with(names, ties=()):
    """A web of points and ties; a tie is what put_tie takes."""
    web = Web()
    for name in names:
        web.put_point(name)
    for tie in ties:
        web.put_tie(*tie)
    return web


def full_of_points():
    """A web of sixteen points."""
    return web_with(NAMES)


def full_of_ties():
    """A web of forty-eight ties between a and b, and a point c."""
    return web_with("abc", [("a", "b")] * 48)


def fields(tie):
    """All that a Tie tells."""
    return (tie.number, tie.tail, tie.head, tie.load, tie.is_oneway)


def told(web):
    """All that a web tells of itself."""
    return (web.points(), [fields(tie) for tie in web.ties()], web.given())


def refused(case, kind, call, *handed):
    """The refusal of a call, which is of one class alone."""
    with case.assertRaises(WebError) as caught:
        call(*handed)
    case.assertIs(type(caught.exception), kind)
    return caught.exception


def refused_unchanged(case, web, kind, deed, *handed):
    """The refusal of a web's deed, which leaves the web as it was."""
    ahead = told(web)
    error = refused(case, kind, getattr(web, deed), *handed)
    case.assertEqual(told(web), ahead)
    return error


# Webs to ask, and what is known of them without the program's own searches.


class Chance:
    """A row of numbers that looks like chance, and is the same each time."""

    def __init__(self, seed):
        self.now = seed

    def below(self, many):
        self.now = (self.now * 6364136223846793005 + 1442695040888963407) % 2 ** 64
        return (self.now >> 33) % many


def made_web(seed, most_points=6, most_ties=9):
    """A web by chance, some of whose ties are gone again."""
    chance = Chance(seed)
    names = list(NAMES[:2 + chance.below(most_points - 1)])
    web = Web()
    while names:
        web.put_point(names.pop(chance.below(len(names))))
    points = web.points()
    loads = [[0], [0, 1], [1, 2, 3, 10 ** 60], list(range(20))][chance.below(4)]
    kinds = [[False], [True], [False, True], [False, True, True]][chance.below(4)]
    for _ in range(chance.below(most_ties + 1)):
        tail = points[chance.below(len(points))]
        head = points[chance.below(len(points))]
        if tail != head:
            load = loads[chance.below(len(loads))]
            web.put_tie(tail, head, load, kinds[chance.below(len(kinds))])
            if chance.below(4) == 0:
                web.put_tie(tail, head, load)
                web.drop_tie(web.given())
    return web


def made_webs(many=60):
    return [made_web(seed) for seed in range(many)]


def great_webs():
    """Webs of sixteen points and forty-eight ties."""
    return [
        made_great(lambda at: (at % 16, (at + 1 + at // 16) % 16), False),
        made_great(lambda at: (at % 16, (at + 1 + at // 16) % 16), True),
        made_great(lambda at: (at % 15, at % 15 + 1), False),
        made_great(lambda at: (at % 15, at % 15 + 1), True),
        made_great(lambda at: (at // 16, 4 + (at * 7) % 12), True),
        made_great(lambda at: (at % 4, 4 + at % 12), False),
        made_great(lambda at: (0, 15), False),
    ]


def made_great(ends_of, is_oneway):
    web = full_of_points()
    for at in range(48):
        tail, head = ends_of(at)
        web.put_tie(NAMES[tail], NAMES[head], 10 ** 60 - at % 3, is_oneway)
    return web


def turned_kinds(web, is_oneway):
    """A web alike, but for the kinds of its ties."""
    word = "way" if is_oneway else "tie"
    lines = []
    for line in web_lines(web):
        words = line.split(" ")
        lines.append(" ".join([word] + words[1:]) if len(words) == 5 else line)
    return web_of(lines)


def other_loads(web):
    """A web alike, but for the loads of its ties."""
    other = web.copied()
    for tie in other.ties():
        other.set_load(tie.number, (tie.load * 7 + tie.number * 5) % 11)
    return other


def widened(web, between=True):
    """The web's points and ties, their numbers doubled, with other pieces between.

    Without these others where between is False.
    """
    points, ties = [], []
    for at, name in enumerate(web.points()):
        if between:
            points.append("other" + NAMES[at])
        points.append(name)
    for tie in web.ties():
        word = "way" if tie.is_oneway else "tie"
        others = [name for name in points if name.startswith("other")]
        at = tie.number % max(1, len(others) - 1)
        if len(others) > 1:
            number, load = 2 * tie.number - 1, tie.number % 3
            ties.append(f"{word} {number} {others[at]} {others[at + 1]} {load}")
        ties.append(f"{word} {2 * tie.number} {tie.tail} {tie.head} {tie.load}")
    given = 2 * web.given() + (5 if between else 0)
    return web_of([f"point {name}" for name in points] + ties + [f"given {given}"])


def steps_of(web, is_plain, without=()):
    """All (number, from, to) that may be gone."""
    steps = []
    for tie in web.ties():
        if tie.number not in without:
            steps.append((tie.number, tie.tail, tie.head))
            if is_plain or not tie.is_oneway:
                steps.append((tie.number, tie.head, tie.tail))
    return steps


def reached(web, one, is_plain, without=()):
    """All that one comes to, in the web's order."""
    found, many = {one}, 0
    while len(found) > many:
        many = len(found)
        for _, ahead, behind in steps_of(web, is_plain, without):
            if ahead in found:
                found.add(behind)
    return [name for name in web.points() if name in found]


def all_ways(web, one, other, is_plain):
    """All ways from one to other that meet no point twice: lists of (number, to)."""
    if one == other:
        return [[]]
    ways, rows = [], [(one, [])]
    while rows:
        name, row = rows.pop()
        met = [one] + [point for _, point in row]
        for number, ahead, behind in steps_of(web, is_plain):
            if ahead == name and behind not in met:
                longer = row + [(number, behind)]
                if behind == other:
                    ways.append(longer)
                else:
                    rows.append((behind, longer))
    return ways


def walked(case, web, numbers, one, is_plain):
    """The points of a way, in order; it meets none of them twice."""
    case.assertIs(type(numbers), list)
    met = [one]
    for number in numbers:
        ends = [
            behind for at, ahead, behind in steps_of(web, is_plain)
            if at == number and ahead == met[-1]
        ]
        case.assertEqual(len(ends), 1, (numbers, one))
        case.assertNotIn(ends[0], met)
        met.append(ends[0])
    return met


def shown(thing):
    """What is told, with all its fields, as what can be compared."""
    if isinstance(thing, dict):
        return ["dict", [[key, shown(worth)] for key, worth in thing.items()]]
    if isinstance(thing, (list, tuple)):
        return [type(thing).__name__, [shown(part) for part in thing]]
    if isinstance(thing, (int, str)) or thing is None:
        return [type(thing).__name__, thing]
    return [type(thing).__name__, shown(vars(thing))]


def spoil(thing):
    """Changes all lists and dicts in what was told."""
    if isinstance(thing, dict):
        for worth in thing.values():
            spoil(worth)
        thing.clear()
        thing["spoiled"] = 1
    elif isinstance(thing, list):
        for part in thing:
            spoil(part)
        thing.append("spoiled")
        thing.reverse()
    elif not isinstance(thing, (int, str)) and thing is not None:
        for part in vars(thing).values():
            spoil(part)


# Deeds as a book's bundles have them, and what is known of them without a book.

METHODS = {
    "point": "put_point", "gone": "drop_point", "rename": "rename", "tie": "put_tie",
    "untie": "drop_tie", "load": "set_load", "join": "join", "part": "part",
}


def do_deed(web, deed):
    """Does a deed to a web, or to whatever else has a web's deeds."""
    return getattr(web, METHODS[deed[0]])(*deed[1:])


def made_name(chance, web):
    """Mostly a point of the web, else a name that may be none of its points."""
    names = web.points()
    if names and chance.below(6):
        return names[chance.below(len(names))]
    return NAMES[chance.below(8)]


def made_number(chance, web):
    """Mostly the number of a tie of the web, else one that may be none."""
    numbers = [tie.number for tie in web.ties()]
    if numbers and chance.below(6):
        return numbers[chance.below(len(numbers))]
    return chance.below(web.given() + 2)


def made_part(chance, web):
    name = made_name(chance, web)
    numbers = [
        tie.number for tie in web.ties()
        if name in (tie.tail, tie.head) and chance.below(2)
    ]
    if chance.below(6) == 0:
        numbers.append(made_number(chance, web))
    return ("part", name, NAMES[chance.below(8)], numbers)


def made_deed(chance, web):
    """A deed by chance, of few names: most are done, some refused."""
    word = list(METHODS)[chance.below(8)]
    if word in ("point", "gone"):
        return (word, NAMES[chance.below(8)])
    if word == "rename":
        return (word, made_name(chance, web), NAMES[chance.below(8)])
    if word == "join":
        return (word, made_name(chance, web), made_name(chance, web))
    if word == "tie":
        ends = (made_name(chance, web), made_name(chance, web))
        rest = [(), (chance.below(4),), (chance.below(4), chance.below(2) == 0)]
        return (word, *ends, *rest[chance.below(3)])
    if word == "untie":
        return (word, made_number(chance, web))
    if word == "load":
        return (word, made_number(chance, web), chance.below(4))
    return made_part(chance, web)


OF_TWO_NAMES = ["together", "comes", "must", "points", "ring", "least", "fewest", "apart"]
OF_NO_NAMES = ["pieces", "knots", "sides", "lightest", "starts", "leaves"]


def all_texts(points):
    """Questions' texts: each kind, of all of some names."""
    texts = list(OF_NO_NAMES)
    for one in points:
        for other in points:
            texts.extend(f"{word} {one} {other}" for word in OF_TWO_NAMES)
            texts.extend(f"past {one} {other} {name}" for name in points)
    return texts


def made_text(chance, web):
    """A question's text by chance, of few names: some are refused."""
    words = OF_TWO_NAMES + OF_NO_NAMES + ["past"]
    word = words[chance.below(len(words))]
    if word in OF_NO_NAMES:
        return word
    many = 3 if word == "past" else 2
    return " ".join([word] + [made_name(chance, web) for _ in range(many)])


def outcome(call, *handed):
    """What is told, or how it is refused, as what can be compared."""
    try:
        return shown(call(*handed))
    except WebError as error:
        return [type(error).__name__, shown(vars(error))]
