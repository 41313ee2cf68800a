"""Shrinking a web: a spot with just two items makes these one, and items beside one another become one.

What is done when items become one is up to the work that is passed: an object with the list ends, which has the two
ends of each item, and a method made_by(kind, items, low, high), which returns the new item between these two spots
that stands for the two items; the kind is "ring" for items one behind the other, "bundle" for such beside one another.
"""

from flatbonds.helpers import mask_of


def shrunk_items(work, items):
    """For each spot that is left a dict of items by neighbours, when the items of a block are shrunk.

    Two spots are left, with one item between them, or more with three neighbours each, at least.
    """
    rows = {}
    for item in items:
        _put(work, rows, item)
    thin = [spot for spot in rows if len(rows[spot]) == 2]
    while thin and len(rows) > 2:
        spot = thin.pop()
        if spot not in rows:
            continue
        (low, first), (high, last) = list(rows[spot].items())
        del rows[spot], rows[low][spot], rows[high][spot]
        _put(work, rows, work.made_by("ring", [first, last], low, high))
        thin.extend([end for end in (low, high) if len(rows[end]) == 2])
    return rows


def _put(work, rows, item):
    """Puts the item into the rows; beside another one they become one."""
    low, high = work.ends[item]
    known = rows.get(low, {}).get(high)
    if known is not None:
        item = work.made_by("bundle", [known, item], low, high)
    rows.setdefault(low, {})[high] = item
    rows.setdefault(high, {})[low] = item


def masks_of_rows(rows):
    """For each spot of the rows the mask of its neighbours."""
    return {spot: mask_of(rows[spot]) for spot in rows}
