"""The refusals. Each stands right under WebError, so that none is caught by another one's name."""


class WebError(ValueError):
    """What all refusals of the package are."""


class NoText(WebError):
    """It isn't the text of a web."""


class NoFrame(WebError):
    """Two webs have no one frame."""


class NoTie(WebError):
    """No tie is there."""


class NoRow(WebError):
    """It isn't a row that a desk takes."""


class NotFlat(WebError):
    """The orders aren't flat."""


class TooMany(WebError):
    """There are more than are gone through."""
