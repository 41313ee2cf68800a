"""The texts of webs."""

from flatbonds.bounds import MAX_SPOTS, MAX_TIES
from flatbonds.errors import BadText

_FIGURES = "0123456789"
_MOST_FIGURES = 4


def web_text(web):
    """The text of the web."""
    spots, ties = web
    return "\n".join([str(spots)] + [f"{a} {b}" for a, b in ties])


def parse_web(value):
    """The small web with this text; BadText if there is none."""
    if not isinstance(value, str):
        raise BadText(None)
    lines = value.split("\n")
    spots = _number(lines[0])
    if spots is None or not 1 <= spots <= MAX_SPOTS:
        raise BadText(0)
    ties = []
    for index in range(1, len(lines)):
        ends = _ends(lines[index], spots)
        if ends is None or index > MAX_TIES:
            raise BadText(index)
        ties.append(ends)
    return (spots, tuple(ties))


def _ends(line, spots):
    """The tie that the line tells, None if it tells none of so many spots."""
    words = line.split(" ")
    if len(words) != 2:
        return None
    first, last = _number(words[0]), _number(words[1])
    if first is None or last is None or not first <= last < spots:
        return None
    return (first, last)


def _number(word):
    """The integer that the word tells in decimal without noughts ahead, None if it tells none.

    A longer word than any number of a small web needs is none, so that no word is too long for int.
    """
    if len(word) > _MOST_FIGURES or not word or any([sign not in _FIGURES for sign in word]):
        return None
    if word[0] == "0" and len(word) > 1:
        return None
    return int(word)
