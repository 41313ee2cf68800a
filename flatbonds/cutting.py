"""All bonds of a block, found by shrinking it.

An item that stands for several ties keeps the ways to cut it, which part its two ends, and the bonds within it, which
do not. Each cut of an item belongs to some bond of the block, so there are as many bonds, at least, as an item has
cuts and bonds within it. Cuts and bonds are masks of ties.
"""

from flatbonds.bounds import MAX_LISTED
from flatbonds.errors import TooMany
from flatbonds.helpers import flooded, places_of
from flatbonds.shrinking import masks_of_rows, shrunk_items


class Cutting:
    """The items of a block, the cuts of each, and the bonds within all of them."""

    def __init__(self, ties):
        self.ends = list(ties)
        self.cuts = [[1 << tie] for tie in range(len(ties))]
        self.within = []

    def made_by(self, kind, items, low, high):
        """A new item in the place of two; TooMany if it tells of more than MAX_LISTED bonds."""
        first, last = self.cuts[items[0]], self.cuts[items[1]]
        ask_few(len(first) * len(last))
        both = [cut | other for cut in first for other in last]
        if kind == "ring":
            self.within.extend(both)
            self.cuts.append(first + last)
        else:
            self.cuts.append(both)
        ask_few(len(self.within) + len(self.cuts[-1]))
        self.ends.append((min(low, high), max(low, high)))
        return len(self.ends) - 1


def ask_few(many):
    """Raises TooMany if there are more than MAX_LISTED."""
    if many > MAX_LISTED:
        raise TooMany(MAX_LISTED)


def bond_masks(web, block):
    """The masks of all bonds in a block of the web with two spots at least; TooMany if they are above MAX_LISTED."""
    cutting = Cutting(web[1])
    rows = shrunk_items(cutting, list(block))
    if len(rows) > 2:
        return cutting.within + _bonds_across(len(web[1]), cutting, rows)
    item = [row[spot] for row in list(rows.values()) for spot in row][0]
    return cutting.within + cutting.cuts[item]


def _bonds_across(many, cutting, rows):
    """The bonds that part the spots of the rows in two: each item between the two sides is cut, in each way."""
    # An item with one cut is told by its ties, any other one by a place behind all ties.
    choices, stars = [], {spot: 0 for spot in rows}
    for low in rows:
        for high in rows[low]:
            if low < high:
                ways = cutting.cuts[rows[low][high]]
                code = ways[0]
                if len(ways) > 1:
                    code = 1 << (many + len(choices))
                    choices.append(ways)
                stars[low] = stars[low] | code
                stars[high] = stars[high] | code
    found = []
    for code in _parted_in_two(masks_of_rows(rows), stars):
        masks = [code & ((1 << many) - 1)]
        for place in places_of(code >> many):
            ask_few(len(masks) * len(choices[place]))
            masks = [mask | cut for mask in masks for cut in choices[place]]
        found.extend(masks)
        ask_few(len(found))
    return found


def _parted_in_two(beside, stars):
    """The sums of the stars of one side, for all ways to part the spots in two sides that hang together, each.

    The side with the first spot grows: a spot beside it is put into it, or left out for good. The spots outside
    always hang together: what is parted from those left out, when a spot is put into the side, goes with it. A spot
    beside those left out is taken first: while these hang together, it can be put into the side and left out.
    """
    everywhere = 0
    for spot in beside:
        everywhere = everywhere | (1 << spot)
    root = (everywhere & -everywhere).bit_length() - 1
    found = []
    begun = [(1 << root, 0, beside[root], 0, stars[root])]
    while begun and len(found) <= MAX_LISTED:
        inner, outer, around, beyond, code = begun.pop()
        free = around & ~inner & ~outer
        if free == 0:
            found.append(code)
            continue
        free = free & beyond or free
        low = free & -free
        near = beside[low.bit_length() - 1]
        begun.append((inner, outer | low, around, beyond | near, code))
        left = everywhere & ~inner & ~low
        for rest in _rests(left, outer, beside, near):
            further, sum_of_stars = around, code
            for spot in places_of(left & ~rest | low):
                further = further | beside[spot]
                sum_of_stars = sum_of_stars ^ stars[spot]
            begun.append((everywhere & ~rest, outer, further, beyond, sum_of_stars))
    return found


def _rests(left, outer, beside, near):
    """The pieces of the spots that are left, each of which has all of outer; near are the neighbours of the one put in.

    There are none if no spot is left, or if no piece has all of outer.
    """
    near = near & left
    if near & (near - 1) == 0:
        return [left] if left else []
    if outer:
        piece = flooded(outer & -outer, left, beside)
        return [] if outer & ~piece else [piece]
    found = []
    while left:
        piece = flooded(left & -left, left, beside)
        found.append(piece)
        left = left & ~piece
    return found
