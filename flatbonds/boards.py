"""Boards, whose webs are edited, and flat boards, whose webs can always be laid flat."""

from flatbonds.blocks import blocks
from flatbonds.bounds import MAX_EDITS
from flatbonds.edits import Story, batch_done, change_made, laid, spot_put, tie_cut, tie_drawn, tie_put
from flatbonds.errors import (
    BadWeb, Crossed, NothingToRedo, NothingToUndo, NoTie, NoVersion, TooManyEdits, WebError
)
from flatbonds.helpers import is_below, is_integer, is_pair
from flatbonds.layings import how_many
from flatbonds.papers import forbidden
from flatbonds.texts import web_text
from flatbonds.webs import web_error


class Board:
    """A small web that edits change, with a flat laying of it where there is one; BadWeb if value is no small web."""

    def __init__(self, value):
        error = web_error(value)
        if error is not None:
            raise BadWeb(error)
        self._story = Story((laid(value),), 0, value)

    @property
    def web(self):
        """The web."""
        return self._story.shape

    @property
    def laying(self):
        """A flat laying of the web, None if there is none."""
        return self._story.lying

    @property
    def version(self):
        """How many edits stand."""
        return self._story.number

    def __len__(self):
        return len(self._story.ties)

    def __getitem__(self, at):
        if not is_below(at, len(self._story.ties)):
            raise NoTie(at)
        return self._story.ties[at]

    def __contains__(self, x):
        return is_pair(x) and is_integer(x[0]) and is_integer(x[1]) and x in self._story.ties

    def __iter__(self):
        return iter(self._story.ties)

    def __str__(self):
        return str(web_text(self._story.shape))

    def __eq__(self, other):
        return isinstance(other, Board) and self._story.shape == other._story.shape

    def __ne__(self, other):
        return not self == other

    def count(self):
        """How many flat layings the web has."""
        return how_many(self._story.shape)

    def paper(self):
        """Any paper of kind "five" or "six" in the web, None if it has a flat laying."""
        return forbidden(self._story.shape)

    def blocks(self):
        """The ascending tuple of all blocks of the web, as picks."""
        return blocks(self._story.shape)

    def spot(self):
        """Puts one spot more, without ties; TooMany, TooManyEdits."""
        return self._stand(spot_put(self._state()))

    def tie(self, spot, other):
        """Puts a tie between the two spots behind the others; NoSpot, TooMany, TooManyEdits."""
        return self._stand(tie_put(self._state(), spot, other))

    def cut(self, index):
        """Takes the tie out; NoTie, TooManyEdits."""
        return self._stand(tie_cut(self._state(), index))

    def draw(self, index):
        """Draws the tie in; NoTie, TooManyEdits."""
        return self._stand(tie_drawn(self._state(), index))

    def change(self, value):
        """Does a change of the web; BadChange, TooMany, TooManyEdits."""
        return self._stand(change_made(self._state(), value))

    def batch(self, edits):
        """Does several edits as one; BadBatch, Rejected, TooManyEdits."""
        return self._stand(batch_done(self._state(), edits))

    def _state(self):
        """The web and its laying."""
        return (self._story.shape, self._story.lying)

    def _stand(self, state):
        """Lets an edit that leads to this state stand, and returns the version then; TooManyEdits."""
        if self._story.number >= MAX_EDITS:
            raise TooManyEdits()
        self._story = self._story.with_next(state)
        return self._story.number

    def undo(self):
        """Takes back the last edit that stands, and returns the version then; NothingToUndo."""
        if self._story.number == 0:
            raise NothingToUndo()
        self._story = self._story.led_to(self._story.number - 1)
        return self._story.number

    def redo(self):
        """Does the edit again that was taken back last, and returns the version then; NothingToRedo."""
        if self._story.number + 1 == len(self._story.states):
            raise NothingToRedo()
        self._story = self._story.led_to(self._story.number + 1)
        return self._story.number

    def at(self, version):
        """The web when so many of the edits stood that stand now; NoVersion."""
        if not is_below(version, self._story.number + 1):
            raise NoVersion(version)
        return self._story.states[version][0]

    def news(self):
        """How many flat layings the web ahead of the last edit, undo or redo had, and how many the web has now."""
        return (how_many(self._story.before), how_many(self._story.shape))

    def copy(self):
        """A Board that is as this one; neither changes with the other."""
        made = Board(self._story.shape)
        made._story = self._story
        return made

    def attempt(self, work):
        """What work returns of the board; if work raises an error of this package the board is as ahead of the call."""
        story = self._story
        try:
            return work(self)
        except WebError:
            self._story = story
            raise


class FlatBoard(Board):
    """A Board whose web always has a flat laying; Crossed, behind BadWeb, if value has none.

    Crossed is raised by each edit, a batch as one, behind which the web would have none, ahead of TooManyEdits alone.
    """

    def __init__(self, value):
        super().__init__(value)
        _ask_flat(self._state())

    def _stand(self, state):
        """Lets an edit that leads to this state stand, and returns the version then; Crossed, TooManyEdits."""
        _ask_flat(state)
        return super()._stand(state)

    def copy(self):
        """A FlatBoard that is as this one; neither changes with the other."""
        made = FlatBoard(self._story.shape)
        made._story = self._story
        return made


def _ask_flat(state):
    """Raises Crossed, with a paper that shows it, if the web of the state has no flat laying."""
    web, laying = state
    if laying is None:
        raise Crossed(forbidden(web))
