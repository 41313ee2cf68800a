"""Ties that can be put to a web with a flat laying until no further one can."""

from flatbonds.flatness import flat_rows
from flatbonds.helpers import neighbours
from flatbonds.turns import dart_spots, rows_of_faces
from flatbonds.webs import pieces


def filling_ties(web):
    """Ties, none a loop or beside another one, with which no further one can be put to the web, which can lie flat."""
    heads = [piece[0] for piece in pieces(web)]
    added = [(heads[at - 1], heads[at]) for at in range(1, len(heads))]
    edges = sorted({ends: True for ends in [*web[1], *added] if ends[0] != ends[1]})
    whole = (web[0], tuple(edges))
    beside = neighbours(whole)
    spots = dart_spots(whole)
    for face in rows_of_faces(whole, flat_rows(web[0], edges)):
        added.extend(_across(beside, [spots[dart] for dart in face]))
    return added


def _across(beside, line):
    """Ties across the face round which the line leads, till all faces there have three ties; notes them in beside.

    In a longer line there always is a spot the ones ahead of and behind which are two, and not beside one another: if
    the ends of one such tie were beside one another beyond the face, those of the next one could not be.
    """
    added = []
    while len(line) > 3:
        at = _place_between(beside, line)
        low, high = sorted([line[at - 1], line[(at + 1) % len(line)]])
        added.append((low, high))
        beside[low] = beside[low] | (1 << high)
        beside[high] = beside[high] | (1 << low)
        line = line[:at] + line[at + 1:]
    return added


def _place_between(beside, line):
    """The first place in the line with spots ahead and behind that are not one, nor beside one another."""
    for at in range(len(line)):
        before, behind = line[at - 1], line[(at + 1) % len(line)]
        if before != behind and not beside[before] >> behind & 1:
            return at
    return None
