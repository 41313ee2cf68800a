"""Telling the spots of webs apart: cells of spots that look alike, split till each spot of a cell sees the same cells.

Cells are told by their places: how many spots stand in the cells ahead of them. All that is done hangs on how many
ties lead from cell to cell alone, not on the names of spots. So if two webs are split with the same marks, a lead from
the one to the other, if there is one that suits the cells at first, leads each cell to that with the same place.
"""

from flatbonds.helpers import neighbours


class Net:
    """A web as it is looked at here: how many loops each spot has, and how many ties to each other one."""

    def __init__(self, web):
        spots, ties = web
        self.masks = neighbours(web)
        self.loops = [0] * spots
        rows = [{} for _ in range(spots)]
        for a, b in ties:
            if a == b:
                self.loops[a] += 1
            else:
                rows[a][b] = rows[a].get(b, 0) + 1
                rows[b][a] = rows[b].get(a, 0) + 1
        self.rows = [list(row.items()) for row in rows]


class Cells:
    """Some spots in cells: the spots of each cell by its place, and for each spot the place of its cell."""

    def __init__(self, members):
        self.members = members
        self.place = {spot: place for place in members for spot in members[place]}

    def copied(self):
        """Cells that can be split without these being changed."""
        return Cells(dict(self.members))

    def put(self, place, parts):
        """Puts these parts in the place of the cell that has their spots."""
        for part in parts:
            self.members[place] = part
            for spot in part:
                self.place[spot] = place
            place += len(part)

    def several(self):
        """The place of a least cell with more than one spot, None if there is none."""
        found = [(len(row), place) for place, row in self.members.items() if len(row) > 1]
        return min(found)[1] if found else None


def cells_of(rows):
    """Cells with these spots, row by row."""
    members = {}
    place = 0
    for row in rows:
        members[place] = row
        place += len(row)
    return Cells(members)


def cells_by_loops(net):
    """Cells of all spots by how many loops they have, and these numbers with how many spots have so many."""
    rows = {}
    for spot, many in enumerate(net.loops):
        rows.setdefault(many, []).append(spot)
    numbers = sorted(rows)
    return (cells_of([rows[many] for many in numbers]), [(many, len(rows[many])) for many in numbers])


def split_apart(net, cells, place, spot, known):
    """Cells as these, with the spot ahead of the others of its cell, and the marks; None if they are not the known."""
    found = cells.copied()
    found.put(place, [[spot], [other for other in cells.members[place] if other != spot]])
    marks = split_on(net, found, [place], known)
    return None if marks is None else (found, marks)


def split_on(net, cells, places, known):
    """Splits the cells by how many ties lead to the cells at these places, and so on till none can be split further.

    What was seen is told by the marks that are returned; None as soon as they are not the known ones, if there are any.
    """
    marks = []
    waiting = {place: True for place in places}
    while waiting:
        at = next(iter(waiting), None)
        del waiting[at]
        seen = _seen_from(net, cells, at)
        for place, parts, sizes in seen:
            marks.append((at, place, sizes))
            if known is not None and known[len(marks) - 1:len(marks)] != marks[-1:]:
                return None
            if len(parts) > 1:
                cells.put(place, parts)
                _wait(waiting, place, parts)
    return marks if known is None or len(known) == len(marks) else None


def _seen_from(net, cells, at):
    """For each cell with ties to the one at this place: its place, its parts by how many, these numbers and sizes."""
    counts = {}
    for spot in cells.members[at]:
        for further, many in net.rows[spot]:
            if further in cells.place:
                counts[further] = counts.get(further, 0) + many
    touched = {}
    for spot in counts:
        touched.setdefault(cells.place[spot], {}).setdefault(counts[spot], []).append(spot)
    found = []
    for place in sorted(touched):
        groups = touched[place]
        row = cells.members[place]
        if len(row) > sum([len(group) for group in groups.values()]):
            groups[0] = [spot for spot in row if spot not in counts]
        numbers = sorted(groups)
        found.append((place, [groups[many] for many in numbers], [(many, len(groups[many])) for many in numbers]))
    return found


def _wait(waiting, place, parts):
    """Lets the parts of the cell that was at this place wait, without a greatest one, unless the cell waited itself."""
    sizes = [len(part) for part in parts]
    spared = 0 if place in waiting else sizes.index(max(sizes))
    for number, size in enumerate(sizes):
        if number != spared:
            waiting[place] = True
        place += size
