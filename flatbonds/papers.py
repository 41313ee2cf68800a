"""Papers: corners and paths in a web that show that it can't be laid flat, is not outer, or not woven of two roads."""

from flatbonds.blocks import blocks
from flatbonds.bounds import MAX_OUT
from flatbonds.errors import TooMany
from flatbonds.flatness import lies_flat, shrunk
from flatbonds.helpers import exits, first_way, is_below, is_pair, is_row, mask_of, spots_along
from flatbonds.outs import bared, first_out
from flatbonds.parts import parts_of
from flatbonds.weaves import Weave
from flatbonds.webs import spots_of, web_of

# For each kind of paper how many corners stand in its first ascending row, and how many in the second one.
_GROUPS = {"five": (5, 0), "four": (4, 0), "six": (3, 3), "two": (2, 3)}


def paper_holds(web, value):
    """Whether value is a paper in the web, of whatever kind."""
    if not isinstance(value, tuple) or len(value) != 3:
        return False
    kind, corners, paths = value
    if not isinstance(kind, str) or kind not in _GROUPS or not _are_corners(web, kind, corners):
        return False
    pairs = _pairs_of(kind)
    if not isinstance(paths, tuple) or len(paths) != len(pairs):
        return False
    been = mask_of(corners)
    for (first, last), path in zip(pairs, paths):
        line = spots_along(web, corners[first], path)
        if line is None or line[-1] != corners[last]:
            return False
        for spot in line[1:-1]:
            if been >> spot & 1:
                return False
            been = been | (1 << spot)
    return True


def _are_corners(web, kind, value):
    """Whether value is a tuple of different spots in the order that the kind asks for."""
    many = sum(_GROUPS[kind])
    first = _GROUPS[kind][0]
    if not is_row(value, web[0]) or len(value) != many:
        return False
    if sorted(value[:first]) + sorted(value[first:]) != list(value) or len(set(value)) != many:
        return False
    return kind != "six" or value[0] == min(value)


def _pairs_of(kind):
    """The pairs of the places of corners between which a paper of the kind has paths, in order."""
    first, last = _GROUPS[kind]
    if last == 0:
        return [(at, further) for at in range(first) for further in range(at + 1, first)]
    return [(at, first + further) for at in range(first) for further in range(last)]


def _paper(web, kind, pick):
    """The paper of kind "five", "six" or "four" whose paths are made of the ties of the pick."""
    rows = exits(web, pick)
    corners = [spot for spot in range(web[0]) if len(rows[spot]) > 2]
    paths = {}
    for corner in corners:
        for step in rows[corner]:
            path, last = _path_from(rows, step)
            paths[(corner, last)] = path
    if kind == "six":
        others = [corner for corner in corners if (corners[0], corner) in paths]
        corners = [corner for corner in corners if corner not in others] + others
    found = [paths[(corners[first], corners[last])] for first, last in _pairs_of(kind)]
    return (kind, tuple(corners), tuple(found))


def _path_from(rows, step):
    """The ties from the step on to the next spot with more than two ways on, and this spot."""
    tie, spot = step
    path = [tie]
    while len(rows[spot]) == 2:
        tie, spot = [further for further in rows[spot] if further[0] != path[-1]][0]
        path.append(tie)
    return (tuple(path), spot)


def forbidden(web):
    """Any paper of kind "five" or "six" in the web, None if it has a flat laying."""
    pick = bare(web)
    if pick is None:
        return None
    rows = exits(web, pick)
    corners = [row for row in rows if len(row) > 2]
    return _paper(web, "five" if len(corners) == 5 else "six", pick)


def bare(web):
    """The pick that is left if ties, from the greatest down, are taken out as long as there is no flat laying; or None.

    None is told of a web with a flat laying.
    """
    spots, ties = web
    if lies_flat(spots, ties):
        return None
    return tuple(bared(len(ties), lambda pick: not lies_flat(spots, [ties[tie] for tie in pick])))


def fewest_out(web):
    """The first one of the least picks without which the web has a flat laying; TooMany if they are above MAX_OUT."""
    pick = first_out(web)
    if pick is None:
        raise TooMany(MAX_OUT)
    return pick


def is_outer(web):
    """Whether the web has a flat laying with a face for each piece at which all spots of the piece stand."""
    return is_two_road(web) and _three_roads(web) is None


def outer_paper(web):
    """Any paper of kind "four" or "two" in the web, None if it is outer."""
    if not is_two_road(web):
        return two_road_paper(web)
    found = _three_roads(web)
    if found is None:
        return None
    low, high, roads = found
    # Each road has two ties at least: the spot behind the first one is taken for a corner.
    told = sorted([(sum(web[1][road[0]]) - low, road[:1], road[:0:-1]) for road in roads])
    middle = [spot for spot, _, _ in told]
    return ("two", (low, high, *middle), (*[first for _, first, _ in told], *[last for _, _, last in told]))


def _three_roads(web):
    """Two spots and three roads apart between them, of two ties at least each, in a web woven of two roads; or None.

    There are such roads just if three joins of a block stand at the two spots, one in the side of each: if two of the
    roads hung together elsewhere, too, there would be a paper of kind "four".
    """
    for block in blocks(web):
        kept = spots_of(web, block)
        parts, sides, _ = parts_of(web_of(web, block))
        for number, (kind, members, ends) in enumerate(parts):
            joins = [-1 - member for member in members if member < 0]
            if kind == "bundle" and len(joins) > 2:
                low, high = kept[ends[0][0]], kept[ends[0][1]]
                roads = []
                for join in joins[:3]:
                    side = [tie for at, tie in enumerate(block) if (at in sides[join]) != (join == number - 1)]
                    roads.append(first_way(exits(web, side), low, 1 << high))
                return (low, high, roads)
    return None


def is_two_road(web):
    """Whether no paper of kind "four" is in the web."""
    return not shrunk(web[0], web[1])


def two_road_paper(web):
    """Any paper of kind "four" in the web, None if it is woven of two roads."""
    if is_two_road(web):
        return None
    spots, ties = web
    pick = bared(len(ties), lambda some: bool(shrunk(spots, [ties[tie] for tie in some])))
    return _paper(web, "four", pick)


def unwoven(web):
    """Any tuple of steps behind which no tie is left, None if there is none."""
    if not is_two_road(web):
        return None
    weave = Weave(web)
    steps = []
    while weave.ends:
        step = weave.some_step()
        weave.take(step)
        steps.append(step)
    return tuple(steps)


def unwoven_holds(web, value):
    """Whether value is a tuple of steps behind which no tie is left."""
    if not isinstance(value, tuple):
        return False
    weave = Weave(web)
    for step in value:
        if not is_pair(step) or not isinstance(step[0], str) or not is_below(step[1], len(web[1])):
            return False
        if not weave.can_take(step):
            return False
        weave.take(step)
    return not weave.ends
