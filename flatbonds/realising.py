"""A web with just some given rings, for a few ties.

The rings of a web are the least sums of themselves. If the picks are so, one looks for a tree of the ties that are the
greatest one of no pick, in which each other tie has a way for its ring. With six ties or fewer there always is one.
"""

from flatbonds.helpers import mask_of, places_of


def web_with_rings(count, picks):
    """Any web with so many ties whose rings are just the picks, None if there is none."""
    masks = sorted(set([mask_of(pick) for pick in picks]))
    if masks != _least_sums(masks):
        return None
    tops = {mask.bit_length() - 1: True for mask in masks}
    forest = [tie for tie in range(count) if tie not in tops]
    inside = mask_of(forest)
    # For each tie that is not in the forest the ties of the forest with which it is a ring.
    ways = {}
    for mask in masks:
        others = mask & ~inside
        if others & (others - 1) == 0:
            ways[others.bit_length() - 1] = places_of(mask & inside)
    ends = _tree(forest, ways)
    if ends is None:
        return None
    ties = [ends[tie] if tie in ends else _ends_of(ends, ways[tie]) for tie in range(count)]
    return (len(forest) + 1, tuple(ties))


def _least_sums(masks):
    """The sums of some of the masks, other than 0, within which there is no other such sum; ascending."""
    sums = [0]
    for mask in masks:
        if mask not in sums:
            sums = sums + [mask ^ other for other in sums]
    full = [one for one in sums if one]
    return sorted([one for one in full if not [other for other in full if other != one and other & ~one == 0]])


def _tree(forest, ways):
    """The ends of the ties of the forest in a tree in which each of the ways leads from one spot to another one."""
    begun = [{}]
    while begun:
        ends = begun.pop()
        if not all([_is_way(ends, way) for way in ways.values()]):
            continue
        if len(ends) == len(forest):
            return ends
        spot = len(ends) + 1
        for tie in forest:
            if tie not in ends:
                begun.extend([{**ends, tie: (at, spot)} for at in range(spot)])
    return None


def _is_way(ends, way):
    """Whether the ties lead from one spot to another one, if they all have ends yet."""
    if not all([tie in ends for tie in way]):
        return True
    return _ends_of(ends, way) is not None


def _ends_of(ends, way):
    """The ends of the way that the ties of a tree make, those of a loop if there are no ties; None if they make none.

    Ties of a tree make one way just if an odd number of them stands at two spots alone.
    """
    odd = 0
    for tie in way:
        a, b = ends[tie]
        odd = odd ^ (1 << a) ^ (1 << b)
    spots = places_of(odd)
    if len(spots) > 2:
        return None
    return (spots[0], spots[1]) if spots else (0, 0)
