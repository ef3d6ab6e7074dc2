"""The errors that the package raises."""


class WebError(ValueError):
    """The base of all errors of the package."""


class NotMatrix(WebError):
    """A value is no valid matrix; `rule` is the broken rule and `place` where it is broken."""

    def __init__(self, rule, place):
        WebError.__init__(self, f"not a valid matrix: rule {rule}, place {place}")
        self.rule = rule
        self.place = place


class NotName(WebError):
    """A string is no name of a matrix."""


class TooMany(WebError):
    """There are more of something than the `limit` that is let."""

    def __init__(self, limit):
        WebError.__init__(self, f"more than {limit}")
        self.limit = limit


class NotCrystal(WebError):
    """A value is no crystal; `rule` is the broken rule and `place` where it is broken."""

    def __init__(self, rule, place):
        WebError.__init__(self, f"not a crystal: rule {rule}, place {place}")
        self.rule = rule
        self.place = place


class NotFlat(WebError):
    """A topmost weight is not flat."""
