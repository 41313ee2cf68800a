"""The errors of the package, all of them directly under WebError."""


class WebError(ValueError):
    """An error of this package."""


class Unfit(WebError):
    """The two webs have not as many ties."""


class BadText(WebError):
    """A line of the text of a web is not of its form."""

    def __init__(self, line):
        super().__init__("no text of a small web")
        self.line = line


class TooMany(WebError):
    """There are more than the limit allows."""

    def __init__(self, limit):
        super().__init__("more than the limit")
        self.limit = limit


class InForest(WebError):
    """The tie is in the first forest."""

    def __init__(self, tie):
        super().__init__("the tie is in the first forest")
        self.tie = tie


class NotInForest(WebError):
    """The tie is not in the first forest."""

    def __init__(self, tie):
        super().__init__("the tie is not in the first forest")
        self.tie = tie


class Neither(WebError):
    """The pick is neither even nor a cut."""


class SameSpot(WebError):
    """Two spots that must differ are one."""


class NotBlock(WebError):
    """The web is no block."""


class NotParting(WebError):
    """The pick does not part the web."""


class NoPart(WebError):
    """The tree has no part with this number."""

    def __init__(self, number):
        super().__init__("no part has this number")
        self.number = number


class NotFlat(WebError):
    """The laying, or the web, is not flat."""


class NotWhole(WebError):
    """The web is not one piece, or has no tie."""


class BadMove(WebError):
    """The value is no move that can be done."""


class BadChange(WebError):
    """The value is no change that can be done."""


class NotBasis(WebError):
    """The picks are no flat basis."""


class NotOpposite(WebError):
    """The one web is not opposite to the other."""


class BadWeb(WebError):
    """The value is no small web."""

    def __init__(self, error):
        super().__init__("no small web")
        self.error = error


class NoTie(WebError):
    """The web has no such tie."""

    def __init__(self, index):
        super().__init__("no such tie")
        self.index = index


class NoSpot(WebError):
    """The web has no such spot."""

    def __init__(self, spot):
        super().__init__("no such spot")
        self.spot = spot


class BadBatch(WebError):
    """The value is no batch of edits."""


class Rejected(WebError):
    """An edit of a batch can not be done."""

    def __init__(self, index):
        super().__init__("an edit of the batch can not be done")
        self.index = index


class TooManyEdits(WebError):
    """As many edits stand as may stand."""


class NothingToUndo(WebError):
    """No edit stands."""


class NothingToRedo(WebError):
    """No edit was taken back last."""


class NoVersion(WebError):
    """There is no such version."""

    def __init__(self, given):
        super().__init__("no such version")
        self.given = given


class Crossed(WebError):
    """The web has no flat laying."""

    def __init__(self, paper):
        super().__init__("the web has no flat laying")
        self.paper = paper
