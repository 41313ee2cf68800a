"""What several modules need: kinds of values, numbers in words, masks of places, orders, ways along ties.

A mask is an integer that tells a set of places: its bit k stands for the place k.
"""

_FIGURES = "0123456789"


def is_integer(value):
    """Whether value is an integer; True and False are none."""
    return isinstance(value, int) and not isinstance(value, bool)


def is_below(value, limit):
    """Whether value is an integer from 0 to one less than the limit."""
    return is_integer(value) and 0 <= value < limit


def is_pair(value):
    """Whether value is a tuple of two items."""
    return isinstance(value, tuple) and len(value) == 2


def is_row(value, limit):
    """Whether value is a tuple of integers from 0 to one less than the limit."""
    return isinstance(value, tuple) and all([is_below(item, limit) for item in value])


def is_ascending(value, limit):
    """Whether value is an ascending tuple of integers from 0 to one less than the limit."""
    if not is_row(value, limit):
        return False
    return all([value[at] < value[at + 1] for at in range(len(value) - 1)])


def number_told(word, most):
    """The integer that the word tells in decimal, without noughts ahead and with at most so many figures; or None.

    A longer word tells none, so that no word is too long for int.
    """
    if len(word) > most or not word or any([sign not in _FIGURES for sign in word]):
        return None
    if word[0] == "0" and len(word) > 1:
        return None
    return int(word)


def mask_of(places):
    """The mask of some places."""
    mask = 0
    for place in places:
        mask = mask | (1 << place)
    return mask


def places_of(mask):
    """The ascending tuple of the places in a mask."""
    places = []
    while mask:
        low = mask & -mask
        places.append(low.bit_length() - 1)
        mask = mask ^ low
    return tuple(places)


def orders_of(places):
    """All orders of the places."""
    rows = [[]]
    for place in places:
        rows = [row[:at] + [place] + row[at:] for row in rows for at in range(len(row) + 1)]
    return rows


def replaced(row, places, values):
    """A list like the row with these values at these places."""
    found = list(row)
    for place, value in zip(places, values):
        found[place] = value
    return found


def neighbours(web):
    """For each spot the mask of the other spots to which it has a tie."""
    spots, ties = web
    masks = [0] * spots
    for a, b in ties:
        if a != b:
            masks[a] = masks[a] | (1 << b)
            masks[b] = masks[b] | (1 << a)
    return masks


def flooded(start, allowed, beside):
    """The mask of the spots to which one comes from those in start, going on to allowed ones alone."""
    seen = start
    fresh = start
    while fresh:
        low = fresh & -fresh
        more = beside[low.bit_length() - 1] & allowed & ~seen
        seen = seen | more
        fresh = (fresh ^ low) | more
    return seen


def exits(web, places):
    """For each spot the pairs of a tie, of these places alone, that leads away, and where it leads."""
    spots, ties = web
    rows = [[] for _ in range(spots)]
    for place in places:
        a, b = ties[place]
        if a != b:
            rows[a].append((place, b))
            rows[b].append((place, a))
    return rows


def reached(rows, start):
    """For each place to which one comes along the rows from start the pair by which it is first reached.

    The row of a place is made of pairs of a step and the place to which it leads. What tells of a place reached is
    the pair of the step and the place ahead of it, None of start. The nearer places stand first in the dict.
    """
    back = {start: None}
    queue = [start]
    at = 0
    while at < len(queue):
        place = queue[at]
        for step, further in rows[place]:
            if further not in back:
                back[further] = (step, place)
                queue.append(further)
        at += 1
    return back


def depths(back):
    """For each place reached how many steps lead to it."""
    deep = {}
    for place in back:
        deep[place] = 0 if back[place] is None else deep[back[place][1]] + 1
    return deep


def first_way(rows, start, goals):
    """The steps of a shortest way along the rows from start to a place in the mask goals, None if there is none.

    No place of the way but its last one is in goals.
    """
    back = reached(rows, start)
    near = [place for place in back if goals >> place & 1]
    if not near:
        return None
    place = near[0]
    way = []
    while back[place] is not None:
        step, place = back[place]
        way.append(step)
    return tuple(way[::-1])


def spots_along(web, spot, value):
    """The spots, from spot on, along a tuple of ties; None if value is none that leads from spot to new ones alone."""
    if not is_row(value, len(web[1])):
        return None
    line = [spot]
    for tie in value:
        a, b = web[1][tie]
        if line[-1] not in (a, b):
            return None
        further = a + b - line[-1]
        if further in line:
            return None
        line.append(further)
    return line
