"""What the program refuses: a class for each kind of refusal."""


class WebError(ValueError):
    """Any refusal: `at` is the number told with it, `word` the name of its class."""

    # Each class hands its own name up: within the language of this program a class cannot be asked for it.
    def __init__(self, at=-1, word="WebError"):
        ValueError.__init__(self, f"{word} ({at})")
        self.at = at
        self.word = word


class BadFace(WebError):
    """A tuple that is no face, at its number in the list."""

    def __init__(self, at=-1):
        WebError.__init__(self, at, "BadFace")


class Full(WebError):
    """No room is left."""

    def __init__(self, at=-1):
        WebError.__init__(self, at, "Full")


class BadSize(WebError):
    """A size that is not there, or that does not fit."""

    def __init__(self, at=-1):
        WebError.__init__(self, at, "BadSize")


class BadRow(WebError):
    """A row of another length."""

    def __init__(self, at=-1):
        WebError.__init__(self, at, "BadRow")


class BadRests(WebError):
    """Rests that are none."""

    def __init__(self, at=-1):
        WebError.__init__(self, at, "BadRests")


class NotShut(WebError):
    """A row that is no ring, or no cut, where one is due."""

    def __init__(self, at=-1):
        WebError.__init__(self, at, "NotShut")


class BadMap(WebError):
    """Pairs that do not lead each point to a point."""

    def __init__(self, at=-1):
        WebError.__init__(self, at, "BadMap")


class NotFace(WebError):
    """A face, at its number, that is led to none."""

    def __init__(self, at=-1):
        WebError.__init__(self, at, "NotFace")


class NotNear(WebError):
    """Two maps that are not near."""

    def __init__(self, at=-1):
        WebError.__init__(self, at, "NotNear")


class NoFace(WebError):
    """A face that the web has not."""

    def __init__(self, at=-1):
        WebError.__init__(self, at, "NoFace")


class NotFree(WebError):
    """A face that lies in no other one, or in several."""

    def __init__(self, at=-1):
        WebError.__init__(self, at, "NotFree")


class BadName(WebError):
    """A text that is no name."""

    def __init__(self, at=-1):
        WebError.__init__(self, at, "BadName")


class Taken(WebError):
    """A name that is there already."""

    def __init__(self, at=-1):
        WebError.__init__(self, at, "Taken")


class NoWeb(WebError):
    """A name that no web has."""

    def __init__(self, at=-1):
        WebError.__init__(self, at, "NoWeb")


class NoRow(WebError):
    """A name that no kept row has."""

    def __init__(self, at=-1):
        WebError.__init__(self, at, "NoRow")


class BadKind(WebError):
    """Another kind than is due here."""

    def __init__(self, at=-1):
        WebError.__init__(self, at, "BadKind")


class Unlike(WebError):
    """Two things that do not fit one another."""

    def __init__(self, at=-1):
        WebError.__init__(self, at, "Unlike")


class Had(WebError):
    """A face that the web has already."""

    def __init__(self, at=-1):
        WebError.__init__(self, at, "Had")


class NothingLeft(WebError):
    """Nothing to take back, or to do again."""

    def __init__(self, at=-1):
        WebError.__init__(self, at, "NothingLeft")


class BadText(WebError):
    """A text, at its row, that cannot be read."""

    def __init__(self, at=-1):
        WebError.__init__(self, at, "BadText")
