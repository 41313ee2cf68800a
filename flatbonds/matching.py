"""Leading the spots of one web onto those of another one, cell by cell.

Spots that are alone in their cells are led to one another. The others are led group by group: what hangs together
without spots that are alone can be led by itself, and to whatever suits it, as nothing else hangs on this.
"""

from flatbonds.cells import Net, cells_by_loops, cells_of, split_apart, split_on
from flatbonds.helpers import flooded, mask_of, places_of


def spots_led(web, other):
    """A spot of other for each spot of the web, as a lead leads them; None if there is no lead."""
    one, further = Net(web), Net(other)
    cells, loops = cells_by_loops(one)
    others, other_loops = cells_by_loops(further)
    if loops != other_loops:
        return None
    marks = split_on(one, cells, list(cells.members), None)
    if split_on(further, others, list(others.members), marks) is None:
        return None
    found = matched(one, cells, further, others)
    return None if found is None else row_of(found)


def row_of(found):
    """The tuple of the spots, or ties, to which those from 0 on are led."""
    return tuple([found[spot] for spot in range(len(found))])


def ties_led(rows, others, way):
    """A tie for each tie, if spots are led by the way; the rows tell the ties of both webs by their ends."""
    found = {}
    for ends, ties in rows.items():
        for tie, further in zip(ties, others[ends_led(way, ends)]):
            found[tie] = further
    return row_of(found)


def ends_led(way, ends):
    """The ends to which these are led, if the spots are led by the way."""
    a, b = ends
    return (min(way[a], way[b]), max(way[a], way[b]))


def ties_by_ends(web):
    """For each pair of ends the ascending list of the ties that have them."""
    rows = {}
    for tie, ends in enumerate(web[1]):
        rows.setdefault(ends, []).append(tie)
    return rows


def matched(net, cells, other, others):
    """A dict that leads the spots of cells to those of others, which were split with the same marks; None if none can.

    The cells are those of one net, the others of another one.
    """
    found = {row[0]: others.members[place][0] for place, row in cells.members.items() if len(row) == 1}
    groups = _groups(net, cells)
    left = _groups(other, others)
    for sizes in groups:
        for group in groups[sizes]:
            led = None
            for further in list(left.get(sizes, [])):
                led = _group_led(net, group, other, further)
                if led is not None:
                    left[sizes].remove(further)
                    break
            if led is None:
                return None
            found.update(led)
    return found


def _groups(net, cells):
    """What hangs together of the spots that are not alone in their cells, as cells, by how many it has of each cell."""
    allowed = mask_of([spot for row in cells.members.values() if len(row) > 1 for spot in row])
    groups = {}
    while allowed:
        near = flooded(allowed & -allowed, allowed, net.masks)
        allowed = allowed & ~near
        rows = {}
        for spot in places_of(near):
            rows.setdefault(cells.place[spot], []).append(spot)
        places = sorted(rows)
        sizes = tuple([(place, len(rows[place])) for place in places])
        groups.setdefault(sizes, []).append(cells_of([rows[place] for place in places]))
    return groups


def _group_led(net, cells, other, others):
    """A dict that leads a group of spots to another one with the same sizes, None if none can."""
    place = cells.several()
    if place is None:
        return {cells.members[at][0]: others.members[at][0] for at in cells.members}
    split, marks = split_apart(net, cells, place, cells.members[place][0], None)
    for spot in others.members[place]:
        tried = split_apart(other, others, place, spot, marks)
        if tried is not None:
            led = matched(net, split, other, tried[0])
            if led is not None:
                return led
    return None
