"""What several tests use."""

from reachbook.errors import WebError
from reachbook.webs import Web

NAMES = list("abcdefghijklmnop")


class Alike:
    """Calls itself equal to all things, and is none of them."""

    def __eq__(self, other):
        return True

    def __hash__(self):
        return 1


def web_with(names, ties=()):
    """A web of points and ties; a tie is what put_tie takes."""
    web = Web()
    for name in names:
        web.put_point(name)
    for tie in ties:
        web.put_tie(*tie)
    return web


def full_of_points():
    """A web of sixteen points."""
    return web_with(NAMES)


def full_of_ties():
    """A web of forty-eight ties between a and b, and a point c."""
    return web_with("abc", [("a", "b")] * 48)


def fields(tie):
    """All that a Tie tells."""
    return (tie.number, tie.tail, tie.head, tie.load, tie.is_oneway)


def told(web):
    """All that a web tells of itself."""
    return (web.points(), [fields(tie) for tie in web.ties()], web.given())


def refused(case, kind, call, *handed):
    """The refusal of a call, which is of one class alone."""
    with case.assertRaises(WebError) as caught:
        call(*handed)
    case.assertIs(type(caught.exception), kind)
    return caught.exception


def refused_unchanged(case, web, kind, deed, *handed):
    """The refusal of a web's deed, which leaves the web as it was."""
    ahead = told(web)
    error = refused(case, kind, getattr(web, deed), *handed)
    case.assertEqual(told(web), ahead)
    return error
