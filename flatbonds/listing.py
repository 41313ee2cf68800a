"""What bonds and rings of a block have in common, when they are listed by shrinking it.

An item of the shrunk block stands for several ties and keeps its ways: for bonds the ways to cut it, which part its two
ends, for rings the ways along it, from one end to the other. Of two items that become one, beside one another for bonds
and one behind the other for rings, a way takes one of each; otherwise a way is one of either item, and one of each
together are a bond, or a ring, within the two. So there are at least as many as are within, and as an item has ways
when it is made of two of which a way takes both. Ways, bonds and rings are masks of ties.
"""

from flatbonds.bounds import MAX_LISTED
from flatbonds.errors import TooMany
from flatbonds.helpers import places_of


class Listing:
    """The items of a block, the ways of each, and the bonds, or rings, within them."""

    def __init__(self, ties, kind):
        # A way takes one of each of two items that become one as this kind.
        self.kind = kind
        self.ends = list(ties)
        self.ways = [[1 << tie] for tie in range(len(ties))]
        self.within = []

    def made_by(self, kind, items, low, high):
        """A new item in the place of two; TooMany if there are more than MAX_LISTED bonds, or rings."""
        first, last = self.ways[items[0]], self.ways[items[1]]
        ask_few(len(first) * len(last))
        both = [way | other for way in first for other in last]
        if kind == self.kind:
            self.ways.append(both)
        else:
            self.ways.append(first + last)
            self.within.extend(both)
            ask_few(len(self.within))
        self.ends.append((min(low, high), max(low, high)))
        return len(self.ends) - 1


def ask_few(many):
    """Raises TooMany if there are more than MAX_LISTED."""
    if many > MAX_LISTED:
        raise TooMany(MAX_LISTED)


def coded(listing, many, rows):
    """For each spot of the rows a dict of codes by neighbours, and the choices of ways.

    The code of an item with one way is this; that of any other one is a place behind all ties, which are so many, for
    its choice. So sums of codes tell which items are taken.
    """
    codes = {spot: {} for spot in rows}
    choices = []
    for low in rows:
        for high in rows[low]:
            if low < high:
                ways = listing.ways[rows[low][high]]
                code = ways[0]
                if len(ways) > 1:
                    code = 1 << (many + len(choices))
                    choices.append(ways)
                codes[low][high] = code
                codes[high][low] = code
    return (codes, choices)


def decoded(many, codes, choices):
    """The masks for which the codes stand; TooMany if they are above MAX_LISTED."""
    found = []
    for code in codes:
        masks = [code & ((1 << many) - 1)]
        for place in places_of(code >> many):
            ask_few(len(masks) * len(choices[place]))
            masks = [mask | way for mask in masks for way in choices[place]]
        found.extend(masks)
        ask_few(len(found))
    return found
