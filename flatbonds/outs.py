"""Least picks of ties of which something still holds, and the fewest ties without which a web can be laid flat.

Which ties must go is asked of the web shrunk block by block: there, an edge stands for ties that go together, at least
cost. Each pick that helps has a tie of each witness, a least set of edges that can't be laid flat; so a pick is looked
at only if it has one of each witness known so far, and tells of one more witness if it does not help.
"""

from flatbonds.blocks import blocks
from flatbonds.bounds import MAX_OUT
from flatbonds.flatness import lies_flat
from flatbonds.helpers import mask_of
from flatbonds.shrinking import shrunk_items

_FEW_PICKS = 30


def bared(many, is_left):
    """The places below so many that are left if each, from the greatest down, goes without which is_left still holds.

    is_left is asked of ascending lists of places; it holds for a list if it does for some of its places.
    """
    low, high = 0, many
    while low < high:
        middle = (low + high) // 2
        if is_left(list(range(middle))):
            high = middle
        else:
            low = middle + 1
    left = list(range(low))
    for place in range(low - 2, -1, -1):
        tried = [other for other in left if other != place]
        if is_left(tried):
            left = tried
    return left


class Costs:
    """Items of a web with, for each, the first one of the least picks that cut it; None for one above MAX_OUT."""

    def __init__(self, ties):
        self.ends = list(ties)
        self.picks = [(tie,) for tie in range(len(ties))]

    def made_by(self, kind, items, low, high):
        """A new item in the place of two: of a row one must be cut, of a bundle both."""
        picks = [self.picks[item] for item in items]
        known = sorted([(len(pick), pick) for pick in picks if pick is not None])
        pick = None
        if kind == "ring" and known:
            pick = known[0][1]
        elif kind == "bundle" and sum([size for size, _ in known]) <= MAX_OUT and len(known) == 2:
            pick = tuple(sorted(picks[0] + picks[1]))
        self.picks.append(pick)
        self.ends.append((min(low, high), max(low, high)))
        return len(self.ends) - 1


def first_out(web):
    """The first one of the least picks without which the web has a flat laying, None if they are above MAX_OUT."""
    if lies_flat(web[0], web[1]):
        return ()
    costs = Costs(web[1])
    items = []
    for block in blocks(web):
        if not lies_flat(web[0], [web[1][tie] for tie in block]):
            rows = shrunk_items(costs, block)
            items.extend([rows[low][high] for low in rows for high in rows[low] if low < high])
            if len(items) > 3 * web[0] - 6 + MAX_OUT:
                return None
    edges = [costs.ends[item] for item in items]
    picks = [costs.picks[item] for item in items]
    witnesses = _apart(web[0], edges)
    for size in range(len(witnesses), MAX_OUT + 1):
        pick = _first_that_helps(web[0], edges, witnesses, _picks_of(picks, size))
        if pick is not None:
            return pick
    return None


def _picks_of(picks, size):
    """The picks of this size, ascending, that cut one edge, or one each of two, each with the mask of these edges."""
    found = [(pick, 1 << at) for at, pick in enumerate(picks) if pick is not None and len(pick) == size]
    if size == 2:
        single = [(pick, 1 << at) for at, pick in enumerate(picks) if pick is not None and len(pick) == 1]
        for at, (pick, mask) in enumerate(single):
            found.extend([(tuple(sorted(pick + other)), mask | further) for other, further in single[:at]])
    return sorted(found)


def _witness(spots, edges, gone, witnesses):
    """The mask of a least set of edges, none of them in the mask gone, that can't be laid flat; 0 if there is none.

    Edges of the witnesses known are left out first, so that this one has few edges in common with them.
    """
    counts = [len([mask for mask in witnesses if mask >> place & 1]) for place in range(len(edges))]
    places = [place for place in range(len(edges)) if not gone >> place & 1]
    places = sorted(places, key=lambda place: counts[place])
    left = [edges[place] for place in places]
    if lies_flat(spots, left):
        return 0
    kept = bared(len(left), lambda some: not lies_flat(spots, [left[at] for at in some]))
    return mask_of([places[number] for number in kept])


def _apart(spots, edges):
    """The masks of witnesses without common edges, till there is no further one, or one more than MAX_OUT."""
    found = []
    gone = 0
    while len(found) <= MAX_OUT:
        mask = _witness(spots, edges, gone, found)
        if mask == 0:
            break
        found.append(mask)
        gone = gone | mask
    return found


def _first_that_helps(spots, edges, witnesses, picks):
    """The first pick without whose edges the others can be laid flat, None if there is none; notes new witnesses."""
    left = [(pick, mask) for pick, mask in picks if all([witness & mask for witness in witnesses])]
    while left:
        pick, gone = left[0]
        left = left[1:]
        if lies_flat(spots, [ends for place, ends in enumerate(edges) if not gone >> place & 1]):
            return pick
        # A few picks are looked at sooner than one more witness is found.
        if len(left) > _FEW_PICKS:
            witness = _witness(spots, edges, gone, witnesses)
            witnesses.append(witness)
            left = [(other, mask) for other, mask in left if witness & mask]
    return None
