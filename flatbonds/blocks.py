"""The blocks of a web, and the spots at which they meet."""

from flatbonds.helpers import depths, exits, mask_of, places_of, reached
from flatbonds.webs import spots_of


def blocks(web):
    """The ascending tuple of all blocks, as picks."""
    back, deep = _forest(web)
    # Two ties are in one block just if rings, each of one tie beside a forest, lead from one to the other.
    group = list(range(len(web[1])))
    for tie, (a, b) in enumerate(web[1]):
        for other in _climbed(back, deep, a, b):
            _join(group, tie, other)
    members = {}
    for tie in range(len(group)):
        members.setdefault(_head(group, tie), []).append(tie)
    return tuple(sorted([tuple(row) for row in members.values()]))


def _forest(web):
    """For each spot the pair of the tie and the spot by which it is reached in a forest, or None, and its depth."""
    rows = exits(web, list(range(len(web[1]))))
    back, deep = {}, {}
    for root in range(web[0]):
        if root not in back:
            tree = reached(rows, root)
            back.update(tree)
            deep.update(depths(tree))
    return (back, deep)


def _climbed(back, deep, first, last):
    """The ties of the way from first to last in the forest."""
    way = []
    while first != last:
        if deep[first] < deep[last]:
            first, last = last, first
        tie, first = back[first]
        way.append(tie)
    return way


def _head(group, tie):
    """The tie that stands for the group of this one."""
    while group[tie] != tie:
        tie = group[tie]
    return tie


def _join(group, tie, other):
    """Makes the groups of both ties one, for which the lesser head stands."""
    low, high = sorted([_head(group, tie), _head(group, other)])
    group[high] = low


def cut_spots(web):
    """The ascending tuple of the spots at which ties of more than one block stand."""
    once, again = 0, 0
    for block in blocks(web):
        mask = mask_of(spots_of(web, block))
        again = again | (once & mask)
        once = once | mask
    return places_of(again)


def is_block(web):
    """Whether all ties are in one block, there is a tie, and each spot has one."""
    found = blocks(web)
    return len(found) == 1 and len(spots_of(web, found[0])) == web[0]


def block_line(web, tie, last):
    """The first one of the shortest rows of blocks, from the tie's to that of the tie last, as places in blocks.

    Each block of a row has a spot in common with the next one. None if there is no row.
    """
    found = blocks(web)
    masks = [mask_of(spots_of(web, block)) for block in found]
    rows = [[(place, place) for place, mask in enumerate(masks) if mask & here] for here in masks]
    start, goal = _block_with(found, tie), _block_with(found, last)
    far = depths(reached(rows, goal))
    if start not in far:
        return None
    line = [start]
    while line[-1] != goal:
        at = line[-1]
        line.append(min([place for place, _ in rows[at] if far[place] < far[at]]))
    return tuple(line)


def _block_with(found, tie):
    """The place of the block that has the tie."""
    return [place for place, block in enumerate(found) if tie in block][0]
