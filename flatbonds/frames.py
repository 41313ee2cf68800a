"""How all flat layings of a web are put together, of its blocks, their parts, and the turns at cut spots.

The parts of all blocks are told here by one row of frames. At each of its spots a frame has a row of marks that go
round there: darts for ties, and for a join an integer below 0, the same one in both frames that have it. A ring, or a
single tie, goes round in one way; a firm part in two, one over the other, or in none; a bundle of k members in
1 * 2 * .. * (k - 1) ways. In the turn of a block at a spot each join stands for what the frame beyond it has there.
At a cut spot the turns of the blocks can be put into one another in all ways in which no two blocks cross.
"""

from flatbonds.blocks import blocks
from flatbonds.flatness import flat_rows
from flatbonds.helpers import orders_of
from flatbonds.parts import parts_of
from flatbonds.turns import turn_of
from flatbonds.webs import spots_of, web_of


class Frame:
    """A part of a block; its members are ties, or joins, told by integers below 0, each with its ends in the web."""

    def __init__(self, block, kind, members, ends):
        self.block = block
        self.kind = kind
        self.members = members
        self.ends = ends


def frames_of(web):
    """The frames of all blocks of the web, those of a block behind one another."""
    found = []
    joins = 0
    for number, block in enumerate(blocks(web)):
        kept = spots_of(web, block)
        parts, sides, _ = parts_of(web_of(web, block))
        for kind, members, ends in parts:
            told = [block[member] if member >= 0 else member - joins for member in members]
            found.append(Frame(number, kind, told, [(kept[a], kept[b]) for a, b in ends]))
        joins += len(sides)
    return found


def holders_of(frames):
    """For each join the numbers of the two frames that have it."""
    holders = {}
    for number, frame in enumerate(frames):
        for member in frame.members:
            if member < 0:
                holders.setdefault(member, []).append(number)
    return holders


def ways_round(frame):
    """All ways in which the frame can go round: a dict each, of rows of marks by spots."""
    if frame.kind == "firm":
        rows = _firm_rows(frame)
        return [] if rows is None else [rows, {spot: rows[spot][::-1] for spot in rows}]
    places = list(range(len(frame.members)))
    if frame.kind != "bundle":
        return [_rows_by(frame, places, places)]
    return [_rows_by(frame, [0, *order], [0, *order][::-1]) for order in orders_of(places[1:])]


def _mark(frame, place, which):
    """The mark of the first or second end of the member at the place."""
    member = frame.members[place]
    return member if member < 0 else 2 * member + which


def _rows_by(frame, order, other):
    """The rows of marks if first ends stand in the one order of places, second ends in the other one."""
    rows = {}
    for which, places in enumerate([order, other]):
        for place in places:
            rows.setdefault(frame.ends[place][which], []).append(_mark(frame, place, which))
    return rows


def _firm_rows(frame):
    """The rows of marks of a firm frame, None if it has no flat laying."""
    spots = max([high for _, high in frame.ends]) + 1
    rows = flat_rows(spots, frame.ends)
    if rows is None:
        return None
    return {spot: [_mark(frame, dart // 2, dart % 2) for dart in row] for spot, row in enumerate(rows) if row}


class Layout:
    """What is needed to tell the turns of a web whose frames go round in chosen ways."""

    def __init__(self, web, frames):
        self.ways = [ways_round(frame) for frame in frames]
        self.holders = holders_of(frames)
        # For each spot, and each block there, the number of one frame that has the spot.
        self.first = [{} for _ in range(web[0])]
        # For each spot the numbers of the frames there that can go round in several ways.
        self.moving = [[] for _ in range(web[0])]
        for number, frame in enumerate(frames):
            for spot in self.ways[number][0]:
                self.first[spot].setdefault(frame.block, number)
                if len(self.ways[number]) > 1:
                    self.moving[spot].append(number)


def all_layings_of(web, frames):
    """All flat layings of a web that has some, in any order."""
    layout = Layout(web, frames)
    many = [number for number, ways in enumerate(layout.ways) if len(ways) > 1]
    choices = [[0] * len(frames)]
    for number in many:
        choices = [_replaced(choice, number, way) for choice in choices for way in range(len(layout.ways[number]))]
    base, changing = _fixed_turns(layout, choices[0])
    known = {}
    found = []
    for choice in choices:
        rows = [list(base)]
        for spot in changing:
            key = (spot, *[choice[number] for number in layout.moving[spot]])
            if key not in known:
                known[key] = _turns_at(layout, spot, choice)
            rows = _filled_in(rows, spot, known[key])
        found.extend([tuple(row) for row in rows])
    return found


def _fixed_turns(layout, choice):
    """A turn for each spot, and the spots whose turns are not the same in all flat layings."""
    rows = [_turns_at(layout, spot, choice) for spot in range(len(layout.moving))]
    changing = [spot for spot, turns in enumerate(rows) if layout.moving[spot] or len(turns) > 1]
    return ([turns[0] for turns in rows], changing)


def _replaced(row, at, value):
    """A copy of the row with this value at this place."""
    return row[:at] + [value] + row[at + 1:]


def _filled_in(rows, at, values):
    """The rows with each of the values at this place."""
    if len(values) == 1:
        for row in rows:
            row[at] = values[0]
        return rows
    return [_replaced(row, at, value) for row in rows for value in values]


def _turns_at(layout, spot, choice):
    """All turns of the spot if the frames go round as chosen."""
    rows = [_marks_at(layout, number, spot, choice, None) for number in layout.first[spot].values()]
    if len(rows) < 2:
        return [turn_of(rows[0])] if rows else [()]
    return merged(rows)


def _marks_at(layout, number, spot, choice, entered):
    """The darts at the spot in the frame with the number, and beyond it, from behind the join by which one enters."""
    marks = layout.ways[number][choice[number]][spot]
    if entered is not None:
        at = marks.index(entered)
        marks = marks[at + 1:] + marks[:at]
    darts = []
    for mark in marks:
        if mark >= 0:
            darts.append(mark)
        else:
            beyond = sum(layout.holders[mark]) - number
            darts.extend(_marks_at(layout, beyond, spot, choice, mark))
    return darts


def merged(rows):
    """All turns into which rows of darts, each of which goes round, can be put so that no two of them cross.

    One goes along the turn from its least dart on. Of the rows that are begun, the one begun last goes on; or a new one
    is begun, at any of its darts.
    """
    turns = [turn_of(row) for row in rows]
    first = min(turns)
    found = []
    begun = [((), [first], [turn for turn in turns if turn != first])]
    while begun:
        done, inner, waiting = begun.pop()
        if inner:
            row = inner[-1]
            begun.append((done + row[:1], inner[:-1] + ([row[1:]] if len(row) > 1 else []), waiting))
        elif not waiting:
            found.append(done)
            continue
        if not done:
            continue
        for place, row in enumerate(waiting):
            others = waiting[:place] + waiting[place + 1:]
            for at in range(len(row)):
                turned = row[at:] + row[:at]
                begun.append((done + turned[:1], inner + ([turned[1:]] if len(turned) > 1 else []), others))
    return found
