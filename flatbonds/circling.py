"""All rings of a block, found by shrinking it."""

from flatbonds.bounds import MAX_LISTED
from flatbonds.helpers import flooded, mask_of
from flatbonds.listing import Listing, coded, decoded
from flatbonds.shrinking import masks_of_rows, shrunk_items


def ring_masks(web, block):
    """The masks of all rings in a block of the web with two spots at least; TooMany if they are above MAX_LISTED."""
    listing = Listing(web[1], "ring")
    rows = shrunk_items(listing, list(block))
    if len(rows) == 2:
        return listing.within
    codes, choices = coded(listing, len(web[1]), rows)
    return listing.within + decoded(len(web[1]), _ways_round(masks_of_rows(rows), codes), choices)


def _ways_round(beside, codes):
    """The sums of the codes along all ways round; if these are above MAX_LISTED, some of them, yet more than so many.

    Each one is found from its first step: those of the first spot, and of each next one without those ahead of it.
    """
    found = []
    beside = dict(beside)
    for first in codes:
        for last in codes[first]:
            if beside[first] >> last & 1:
                beside[first] = beside[first] & ~(1 << last)
                beside[last] = beside[last] & ~(1 << first)
                found.extend(_ways_between(beside, codes, first, last, MAX_LISTED - len(found)))
                if len(found) > MAX_LISTED:
                    return found
    return found


def _ways_between(beside, codes, first, last, most):
    """The sums of the codes along all ways from first to last and straight back; of more than so many some are enough.

    Only a step from which last can still be reached is taken, so each one leads to a way.
    """
    everywhere = mask_of(beside)
    if not flooded(1 << first, everywhere, beside) >> last & 1:
        return []
    found = []
    begun = [(first, 1 << first, codes[first][last])]
    while begun and len(found) <= most:
        spot, been, code = begun.pop()
        near = beside[spot] & ~been
        # From one of the spots near last can be reached; so it can from those that hang together with this one.
        if flooded(near & -near, near, beside) != near:
            near = near & flooded(1 << last, everywhere & ~been, beside)
        while near:
            low = near & -near
            near = near ^ low
            further = low.bit_length() - 1
            if further == last:
                found.append(code | codes[spot][last])
            else:
                begun.append((further, been | low, code | codes[spot][further]))
    return found
