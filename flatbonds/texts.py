"""The texts of webs."""

from flatbonds.bounds import MAX_SPOTS, MAX_TIES
from flatbonds.errors import BadText
from flatbonds.helpers import number_told

# No number of a small web needs more.
_MOST_FIGURES = 4


def web_text(web):
    """The text of the web."""
    spots, ties = web
    return "\n".join([str(spots)] + [f"{a} {b}" for a, b in ties])


def parse_web(value):
    """The small web with this text; BadText if there is none."""
    if not isinstance(value, str):
        raise BadText(None)
    lines = value.split("\n")
    spots = number_told(lines[0], _MOST_FIGURES)
    if spots is None or not 1 <= spots <= MAX_SPOTS:
        raise BadText(0)
    ties = []
    for index in range(1, len(lines)):
        ends = _ends(lines[index], spots)
        if ends is None or index > MAX_TIES:
            raise BadText(index)
        ties.append(ends)
    return (spots, tuple(ties))


def _ends(line, spots):
    """The tie that the line tells, None if it tells none of so many spots."""
    words = line.split(" ")
    if len(words) != 2:
        return None
    first, last = [number_told(word, _MOST_FIGURES) for word in words]
    if first is None or last is None or not first <= last < spots:
        return None
    return (first, last)
