"""Shells, which do what lines of words ask of a board."""

from flatbonds.blocks import is_block
from flatbonds.boards import Board
from flatbonds.bounds import MAX_SPOTS
from flatbonds.errors import NothingToRedo, NothingToUndo, NoSpot, NoTie, TooMany, TooManyEdits
from flatbonds.helpers import number_told
from flatbonds.trees import tree

_MOST_FIGURES = 31

# For each word of a line but "new" how many numbers stand behind it.
_NUMBERS = {"spot": 0, "tie": 2, "cut": 1, "draw": 1, "undo": 0, "redo": 0, "web": 0, "count": 0, "flat": 0,
            "parts": 0, "kinds": 0}


class Shell:
    """Answers lines; the board of which they speak is made by a line, too."""

    def __init__(self):
        self._board = None

    def say(self, line):
        """The answer to the line, a string."""
        words = line.split(" ") if isinstance(line, str) else [""]
        if "" in words:
            return "what"
        word, *others = words
        numbers = [number_told(other, _MOST_FIGURES) for other in others]
        is_known = word in _NUMBERS
        if is_known and self._board is None:
            return "no board"
        if any([number is None for number in numbers]):
            return "what"
        if is_known and len(numbers) == _NUMBERS[word]:
            return _answer(self._board, word, numbers)
        if word == "new" and len(numbers) == 1 and 1 <= numbers[0] <= MAX_SPOTS:
            self._board = Board((numbers[0], ()))
            return "ok"
        return "what"


def _answer(board, word, numbers):
    """The answer to a line that asks something of the board."""
    if word == "web":
        return str(board).replace("\n", " / ")
    if word == "count":
        return str(board.count())
    if word == "flat":
        return "no" if board.laying is None else "yes"
    if word == "parts":
        return str(len(board.blocks()))
    if word == "kinds":
        return _kinds(board.web)
    return _done(board, word, numbers)


def _kinds(web):
    """The kinds of the parts of the web's tree, in order."""
    if not is_block(web):
        return "no NotBlock"
    return " ".join([kind for kind, _ in tree(web)])


def _done(board, word, numbers):
    """The answer to a line that lets the board do something."""
    try:
        return f"version {_version(board, word, numbers)}"
    except NoSpot:
        return "no NoSpot"
    except NoTie:
        return "no NoTie"
    except TooMany:
        return "no TooMany"
    except TooManyEdits:
        return "no TooManyEdits"
    except NothingToUndo:
        return "no NothingToUndo"
    except NothingToRedo:
        return "no NothingToRedo"


def _version(board, word, numbers):
    """The version of the board when it has done what the word asks for."""
    if word == "spot":
        return board.spot()
    if word == "tie":
        return board.tie(numbers[0], numbers[1])
    if word == "cut":
        return board.cut(numbers[0])
    if word == "draw":
        return board.draw(numbers[0])
    return board.undo() if word == "undo" else board.redo()
