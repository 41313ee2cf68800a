"""What edits make of a web and its laying, and the story of a web that is edited.

A state is a pair of a web and a flat laying of it, None if there is none. A story never changes: each edit, and each
one that is taken back or done again, makes another story of it.
"""

from flatbonds.bounds import BATCH, MAX_SPOTS, MAX_TIES
from flatbonds.changes import change_done
from flatbonds.errors import BadBatch, BadChange, NoSpot, NoTie, Rejected, TooMany, WebError
from flatbonds.helpers import is_below
from flatbonds.layings import lay, put_in, thinned
from flatbonds.webs import drawn_in, taken_out


class Story:
    """All states of a web, those taken back among them, the number of the one that is now, and the web ahead of it."""

    def __init__(self, states, number, before):
        self.states = states
        self.number = number
        self.before = before
        self.shape, self.lying = states[number]
        self.ties = self.shape[1]

    def led_to(self, number):
        """The story in which the state with this number is the one that is now."""
        return Story(self.states, number, self.shape)

    def with_next(self, state):
        """The story with this state behind the one that is now; what was taken back is forgotten."""
        return Story((*self.states[:self.number + 1], state), self.number + 1, self.shape)


def laid(web):
    """The state of the web with any flat laying."""
    return (web, lay(web))


def spot_put(state):
    """The state with one spot more; TooMany if there would be too many."""
    (spots, ties), laying = state
    if spots >= MAX_SPOTS:
        raise TooMany(MAX_SPOTS)
    return ((spots + 1, ties), None if laying is None else (*laying, ()))


def tie_put(state, spot, other):
    """The state with one tie more; NoSpot for what is no spot, TooMany if there would be too many ties."""
    web, laying = state
    for end in (spot, other):
        if not is_below(end, web[0]):
            raise NoSpot(end)
    if len(web[1]) >= MAX_TIES:
        raise TooMany(MAX_TIES)
    tie = (min(spot, other), max(spot, other))
    further = (web[0], (*web[1], tie))
    found = None if laying is None else put_in(web, laying, tie)
    return laid(further) if found is None else (further, found)


def tie_cut(state, index):
    """The state with the tie taken out; NoTie if there is none."""
    web, laying = state
    _ask_tie(web, index)
    left = taken_out(web, (index,))
    return laid(left) if laying is None else (left, thinned(web, laying, (index,)))


def tie_drawn(state, index):
    """The state with the tie drawn in; NoTie if there is none."""
    web, _ = state
    _ask_tie(web, index)
    return laid(drawn_in(web, index))


def _ask_tie(web, index):
    """Raises NoTie if index is not the place of a tie."""
    if not is_below(index, len(web[1])):
        raise NoTie(index)


def change_made(state, value):
    """The state behind a change; BadChange if it can't be done, TooMany if there would be too many spots."""
    web, _ = state
    further = change_done(web, value)
    if further is None:
        raise BadChange()
    if further[0] > MAX_SPOTS:
        raise TooMany(MAX_SPOTS)
    return laid(further)


# What does the edit of each word that a batch may have, and how many arguments this edit has.
_ACTIONS = {"spot": spot_put, "tie": tie_put, "cut": tie_cut, "draw": tie_drawn, "change": change_made}
_ARGUMENTS = {"spot": 0, "tie": 2, "cut": 1, "draw": 1, "change": 1}


def batch_done(state, edits):
    """The state behind all the edits; BadBatch if they are no batch, Rejected if one of them can't be done."""
    if not isinstance(edits, tuple) or len(edits) > BATCH or not all([_is_edit(edit) for edit in edits]):
        raise BadBatch()
    for index, (word, *worths) in enumerate(edits):
        action = _ACTIONS[word]
        try:
            state = action(state, *worths)
        except WebError:
            raise Rejected(index) from None
    return state


def _is_edit(value):
    """Whether value is the tuple of the word of an edit and as many items as it has arguments."""
    if not isinstance(value, tuple) or not value or not isinstance(value[0], str):
        return False
    return value[0] in _ARGUMENTS and len(value) == _ARGUMENTS[value[0]] + 1
