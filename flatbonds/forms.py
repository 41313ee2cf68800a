"""Changes that lead a web to the one form of all webs with its rings.

First each block is split off. Then, in each ring of a block's tree, the members are put in ascending order; last, each
join is twisted if its two parts do not stand at it as they should: which of its two ends comes first in a part is told
by the members that stand there alone. At the end spots are named in the order of the ties that stand at them.
"""

from flatbonds.blocks import blocks
from flatbonds.changes import change_done
from flatbonds.parts import parts_of
from flatbonds.webs import spots_of, web_of


def way_to_form(web):
    """The pair of changes that lead to the form of the web, and this form."""
    steps = Steps(web)
    _split_blocks(steps)
    for block in blocks(web):
        _order_rings(steps, block)
        _twist_joins(steps, block)
    names = _names(steps.shape)
    if names != tuple(range(steps.shape[0])):
        steps.take(("names", names))
    return (tuple(steps.changes), steps.shape)


class Steps:
    """A web while it is changed, and the changes that were done."""

    def __init__(self, web):
        self.shape = web
        self.changes = []

    def take(self, change):
        """Does the change."""
        self.shape = change_done(self.shape, change)
        self.changes.append(change)


def _split_blocks(steps):
    """Splits off block after block, each one that has just one spot in common with the blocks that are left."""
    left = blocks(steps.shape)
    counts = {}
    spots = {block: spots_of(steps.shape, block) for block in left}
    for block in left:
        for spot in spots[block]:
            counts[spot] = counts.get(spot, 0) + 1
    while left:
        waiting = []
        # Further down left and waiting come to be one list, so a copy is walked.
        for block in list(left):
            shared = [spot for spot in spots[block] if counts[spot] > 1]
            if len(shared) > 1:
                waiting.append(block)
            elif shared:
                steps.take(("split", block))
                counts[shared[0]] -= 1
        left = waiting


def _order_rings(steps, block):
    """Twists picks of the block till the members of each ring of its tree stand in ascending order."""
    parts, sides, _ = parts_of(web_of(steps.shape, block))
    for number, (kind, members, ends) in enumerate(parts):
        if kind != "ring":
            continue
        # The join above a ring stands first, so that it is never among those that are twisted.
        first = -number if number else members[0]
        line = _line_from(members, ends, first)
        at = members.index(first)
        goal = members[at:] + members[:at]
        for place in range(1, len(goal)):
            end = line.index(goal[place]) + 1
            if end > place + 1:
                _twist(steps, block, _ties_of(sides, line[place:end]))
                line = line[:place] + line[place:end][::-1] + line[end:]


def _line_from(members, ends, first):
    """The members of a ring as they stand round it, from the first one on."""
    at = {member: ends[place] for place, member in enumerate(members)}
    line = [first]
    spot = at[first][1]
    while len(line) < len(members):
        further = [member for member in members if spot in at[member] and member != line[-1]][0]
        line.append(further)
        spot = sum(at[further]) - spot
    return line


def _ties_of(sides, members):
    """The ties of a block for which these members of a part stand, which are ties or joins below the part."""
    found = []
    for member in members:
        found.extend([member] if member >= 0 else sides[-1 - member])
    return sorted(found)


def _twist(steps, block, places):
    """Twists the ties at these places of the block."""
    steps.take(("twist", tuple([block[place] for place in places])))


def _twist_joins(steps, block):
    """Twists the side of each join of the block's tree that does not stand as it should."""
    parts, sides, above = parts_of(web_of(steps.shape, block))
    # For each bundle the spot at which the first ends of all its joins should stand.
    heads = {}
    for join in _from_the_top(above):
        head = _first_end(parts[above[join]], -1 - join, heads.get(above[join]))
        if parts[join + 1][0] == "bundle":
            heads[join + 1] = head
        elif _first_end(parts[join + 1], -1 - join, None) != head:
            _twist(steps, block, sides[join])


def _from_the_top(above):
    """The joins in an order in which each one stands behind that of the part above it."""
    order, queue = [], [0]
    while queue:
        number = queue.pop()
        below = [join for join, holder in enumerate(above) if holder == number]
        order.extend(below)
        queue.extend([join + 1 for join in below])
    return order


def _first_end(part, join, head):
    """The end of the join that comes first in the part; in a bundle the head, or either end if this is None."""
    kind, members, ends = part
    at = members.index(join)
    first, last = ends[at]
    if kind == "bundle":
        return first if head is None else head
    if kind == "ring":
        return first if first in ends[at - 1] else last
    rows = [[member for member, pair in zip(members, ends) if spot in pair] for spot in (first, last)]
    return first if rows[0] < rows[1] else last


def _names(web):
    """The names of the spots in the order of the ties that stand at them; None for spots without ties."""
    rows = [[] for _ in range(web[0])]
    for tie, (a, b) in enumerate(web[1]):
        rows[a].append(tie)
        if a != b:
            rows[b].append(tie)
    names = [None] * web[0]
    for name, (_, spot) in enumerate(sorted([(row, spot) for spot, row in enumerate(rows) if row])):
        names[spot] = name
    return tuple(names) if web[1] else (0, *names[1:])
