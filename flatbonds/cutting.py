"""All bonds of a block, found by shrinking it."""

from flatbonds.bounds import MAX_LISTED
from flatbonds.helpers import flooded, mask_of, places_of
from flatbonds.listing import Listing, coded, decoded
from flatbonds.shrinking import masks_of_rows, shrunk_items


def bond_masks(web, block):
    """The masks of all bonds in a block of the web with two spots at least; TooMany if they are above MAX_LISTED."""
    listing = Listing(web[1], "bundle")
    rows = shrunk_items(listing, list(block))
    if len(rows) == 2:
        item = [row[spot] for row in list(rows.values()) for spot in row][0]
        return listing.within + listing.ways[item]
    codes, choices = coded(listing, len(web[1]), rows)
    stars = {spot: sum(list(codes[spot].values())) for spot in codes}
    return listing.within + decoded(len(web[1]), _parted_in_two(masks_of_rows(rows), stars), choices)


def _parted_in_two(beside, stars):
    """The sums of the stars of one side, for all ways to part the spots in two sides that hang together, each.

    The side with the first spot grows: a spot beside it is put into it, or left out for good. The spots outside
    always hang together: what is parted from those left out, when a spot is put into the side, goes with it. A spot
    beside those left out is taken first: while these hang together, it can be put into the side and left out.
    """
    everywhere = mask_of(beside)
    root = (everywhere & -everywhere).bit_length() - 1
    found = []
    begun = [(1 << root, 0, beside[root], 0, stars[root])]
    while begun and len(found) <= MAX_LISTED:
        inner, outer, around, beyond, code = begun.pop()
        free = around & ~inner & ~outer
        if free == 0:
            found.append(code)
            continue
        free = free & beyond or free
        low = free & -free
        near = beside[low.bit_length() - 1]
        begun.append((inner, outer | low, around, beyond | near, code))
        left = everywhere & ~inner & ~low
        for rest in _rests(left, outer, beside, near):
            further, sum_of_stars = around, code
            for spot in places_of(left & ~rest | low):
                further = further | beside[spot]
                sum_of_stars = sum_of_stars ^ stars[spot]
            begun.append((everywhere & ~rest, outer, further, beyond, sum_of_stars))
    return found


def _rests(left, outer, beside, near):
    """The pieces of the spots that are left, each of which has all of outer; near are the neighbours of the one put in.

    There are none if no spot is left, or if no piece has all of outer.
    """
    near = near & left
    if near & (near - 1) == 0:
        return [left] if left else []
    if outer:
        piece = flooded(outer & -outer, left, beside)
        return [] if outer & ~piece else [piece]
    found = []
    while left:
        piece = flooded(left & -left, left, beside)
        found.append(piece)
        left = left & ~piece
    return found
