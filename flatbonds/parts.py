"""How a block is put together, along its joins, of rings, bundles and firm webs.

A block is taken apart as far as it goes: a spot with just two ties makes them a ring with a new item in their place,
ties beside one another a bundle with a new item in theirs, and two spots without which the rest does not hang
together split what is left in two with a new item in both. At last rings beside rings, and bundles beside bundles,
are put together again; the new items that are left over are the joins. Items are told by integers: the ties by their
numbers, the new items by greater ones.
"""

from flatbonds.helpers import mask_of, places_of
from flatbonds.shrinking import masks_of_rows, shrunk_items


class Taking:
    """The items and parts of a block while it is taken apart."""

    def __init__(self, ties):
        self.many = len(ties)
        self.ends = list(ties)
        self.kinds = []
        self.rows = []
        # For each new item that a ring or a bundle made the number of that part.
        self.maker = {}

    def part(self, kind, row):
        """Notes a part with these items."""
        self.kinds.append(kind)
        self.rows.append(row)

    def made(self, low, high):
        """A new item between these spots."""
        self.ends.append((min(low, high), max(low, high)))
        return len(self.ends) - 1

    def made_by(self, kind, items, low, high):
        """A new item between these spots, in the place of the items, with which it is a part of this kind."""
        item = self.made(low, high)
        self.maker[item] = len(self.rows)
        self.part(kind, [*items, item])
        return item


def parts_of(web):
    """The parts of a block as its tree counts them, the joins, and the part above each join.

    A part is a triple of its kind, its members, ascending, and the ends that these have in the web.
    """
    if len(web[1]) == 1:
        return ([("line", (0,), web[1])], [], [])
    taking = Taking(web[1])
    queue = [list(range(taking.many))]
    while queue:
        rows = shrunk_items(taking, queue.pop())
        if len(rows) == 2:
            _close(taking)
        else:
            queue.extend(_split(taking, rows))
    return _counted(taking, _put_together(taking))


def _close(taking):
    """Makes the two items of the bundle that was made last one: nothing but these is left between two spots."""
    taking.kinds.pop()
    first, last, _ = taking.rows.pop()
    if first not in taking.maker and last not in taking.maker:
        taking.part("ring", [first, last])
        return
    gone, stays = (first, last) if first in taking.maker else (last, first)
    row = taking.rows[taking.maker[gone]]
    row[row.index(gone)] = stays


def _split(taking, rows):
    """Two lists of items, parted at two spots, with a new item in both; none, if this can't be done.

    Then all items are a firm part.
    """
    items = [rows[low][high] for low in rows for high in rows[low] if low < high]
    inner = _loose_side(masks_of_rows(rows)) if len(rows) > 5 else None
    if inner is None:
        taking.part("firm", items)
        return []
    low, high, side = inner
    item = taking.made(low, high)
    inside, outside = [item], [item]
    for each in items:
        first, last = taking.ends[each]
        if (side >> first | side >> last) & 1:
            inside.append(each)
        else:
            outside.append(each)
    return [inside, outside]


def _loose_side(beside):
    """Two spots, and the mask of others that hang together with the rest at these two alone; None if there are none."""
    everywhere = mask_of(beside)
    for spot in beside:
        found = _held_by_one(beside, everywhere & ~(1 << spot))
        if found is not None:
            return (spot, found[0], found[1])
    return None


def _held_by_one(beside, allowed):
    """A spot and the mask of others that hang together with the allowed rest at it alone; None if there is none.

    The allowed spots hang together. They are searched in depth: what lies beyond a step is held by the spot from
    which the step was taken if it has no other neighbour; this tells nothing if it is all but the first spot.
    """
    root = (allowed & -allowed).bit_length() - 1
    path, inner, around = [root], [1 << root], [0]
    left = allowed & ~(1 << root)
    while True:
        spot = path[-1]
        near = beside[spot] & left
        if near:
            low = near & -near
            left = left ^ low
            path.append(low.bit_length() - 1)
            inner.append(low)
            around.append(0)
            continue
        if len(path) == 1:
            return None
        path.pop()
        mask = inner.pop()
        reach = (around.pop() | beside[spot]) & allowed
        if reach & ~mask == 1 << path[-1] and mask | (1 << root) != allowed:
            return (path[-1], mask)
        inner[-1] = inner[-1] | mask
        around[-1] = around[-1] | reach


def _put_together(taking):
    """The numbers of the parts that stay, when rings beside rings and bundles beside bundles are put together."""
    holders = {}
    for number, row in enumerate(taking.rows):
        for item in row:
            if item >= taking.many:
                holders.setdefault(item, []).append(number)
    group = list(range(len(taking.rows)))
    for item in holders:
        first, last = [_head(group, number) for number in holders[item]]
        if taking.kinds[first] == taking.kinds[last] != "firm":
            group[last] = first
            both = taking.rows[first] + taking.rows[last]
            taking.rows[first] = [each for each in both if each != item]
    return [number for number in range(len(group)) if group[number] == number]


def _head(group, number):
    """The part into which the part with this number was put."""
    while group[number] != number:
        number = group[number]
    return number


def _counted(taking, numbers):
    """The parts with these numbers as the tree counts them, the joins, and the part above each join."""
    holders = {}
    for number in numbers:
        for item in taking.rows[number]:
            holders.setdefault(item, []).append(number)
    # The joins in the order in which they are come to from the part with the tie 0; each with the part beyond it.
    order, beyond, owner = [], {}, {}
    queue = [(holders[0][0], None)]
    while queue:
        number, above = queue.pop()
        for item in taking.rows[number]:
            if item >= taking.many and item != above:
                owner[item] = number
                beyond[item] = sum(holders[item]) - number
                order.append(item)
                queue.append((beyond[item], item))
    sides = {}
    for item in order[::-1]:
        mask = 0
        for each in taking.rows[beyond[item]]:
            if each != item:
                mask = mask | (1 << each if each < taking.many else sides[each])
        sides[item] = mask
    told = sorted([(places_of(sides[item]), item) for item in order])
    names = {item: -1 - join for join, (_, item) in enumerate(told)}
    counts = {holders[0][0]: 0}
    for join, (_, item) in enumerate(told):
        counts[beyond[item]] = join + 1
    parts = [None] * len(numbers)
    for number in numbers:
        parts[counts[number]] = _told(taking, number, names)
    return (parts, [side for side, _ in told], [counts[owner[item]] for _, item in told])


def _told(taking, number, names):
    """The kind, the members and the ends of the part with the number, the joins told by their names."""
    row = sorted([(names.get(item, item), taking.ends[item]) for item in taking.rows[number]])
    return (taking.kinds[number], tuple([member for member, _ in row]), tuple([ends for _, ends in row]))
