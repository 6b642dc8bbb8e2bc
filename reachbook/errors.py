"""The refusals of Reachbook."""


class WebError(ValueError):
    """Any refusal."""


class BadName(WebError):
    """What is handed in as a new name is no name."""


class Twice(WebError):
    """A name that a point of the web has already."""


class TooMany(WebError):
    """More points or ties than a web has room for."""


class BadTie(WebError):
    """A tie from a point to itself, or one whose kind is no truth."""


class BadLoad(WebError):
    """What is handed in as a load is none."""


class HasTies(WebError):
    """A point at which ties end is not dropped."""


class SamePoint(WebError):
    """Two points are needed, and one is handed in twice."""


class BadForest(WebError):
    """What is handed in as a forest is no list of ties' numbers."""


class NoState(WebError):
    """No state of the book has this number."""


class NoDeed(WebError):
    """There is nothing to be undone, or to be done again."""


# What was handed in is kept as a field alone: written into the message, a
# thing of any kind could fail in being written.


class NoPoint(WebError):
    """No point of the web is called by this name."""

    def __init__(self, name):
        super().__init__("the web has no such point")
        self.name = name


class NoTie(WebError):
    """No tie that could stand here has this number."""

    def __init__(self, number):
        super().__init__("there is no such tie")
        self.number = number


class BadLine(WebError):
    """The line at this place can't stand there."""

    def __init__(self, place):
        super().__init__("a line can't stand where it does")
        self.place = place


class BadText(WebError):
    """A question's text goes wrong at this place."""

    def __init__(self, place):
        super().__init__("the text is no question")
        self.place = place


class BadBundle(WebError):
    """The deed at this place of a bundle is refused, a word tells why."""

    def __init__(self, place, word):
        super().__init__("a deed of the bundle is refused")
        self.place = place
        self.word = word
