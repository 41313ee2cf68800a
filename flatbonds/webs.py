"""Webs: what they are, their spots, darts and pieces, and what is made of them."""

from flatbonds.bounds import MAX_SPOTS, MAX_TIES
from flatbonds.helpers import flooded, is_ascending, is_below, is_integer, is_pair, neighbours, places_of


def web_error(value):
    """What is wrong with value as a small web: a pair of an index, or None, and a word; None if nothing is."""
    if not is_pair(value):
        return (None, "web")
    spots, ties = value
    if not is_integer(spots) or not 1 <= spots <= MAX_SPOTS:
        return (None, "spots")
    if not isinstance(ties, tuple) or len(ties) > MAX_TIES:
        return (None, "ties")
    for index, tie in enumerate(ties):
        if not _is_tie(tie, spots):
            return (index, "tie")
    return None


def _is_tie(value, spots):
    """Whether value is a tie of so many spots."""
    return is_pair(value) and is_below(value[0], spots) and is_below(value[1], spots) and value[0] <= value[1]


def is_pick(web, value):
    """Whether value is a pick of the web."""
    return is_ascending(value, len(web[1]))


def spots_of(web, pick):
    """The ascending tuple of the spots at which ties of the pick stand."""
    mask = 0
    for tie in pick:
        a, b = web[1][tie]
        mask = mask | (1 << a) | (1 << b)
    return places_of(mask)


def darts_at(web, spot):
    """The ascending tuple of the darts that stand at the spot."""
    darts = []
    for tie, ends in enumerate(web[1]):
        darts.extend([2 * tie + which for which in (0, 1) if ends[which] == spot])
    return tuple(darts)


def pieces(web):
    """The ascending tuple of the pieces, each an ascending tuple of spots."""
    beside = neighbours(web)
    left = (1 << web[0]) - 1
    found = []
    while left:
        piece = flooded(left & -left, left, beside)
        found.append(places_of(piece))
        left = left & ~piece
    return tuple(found)


def taken_out(web, pick):
    """The web without the ties of the pick."""
    gone = set(pick)
    return (web[0], tuple([ends for tie, ends in enumerate(web[1]) if tie not in gone]))


def web_of(web, pick):
    """The web of the pick alone."""
    if len(pick) == 0:
        return (1, ())
    kept = spots_of(web, pick)
    names = {spot: name for name, spot in enumerate(kept)}
    ends = [web[1][tie] for tie in pick]
    return (len(kept), tuple([(names[a], names[b]) for a, b in ends]))


def drawn_in(web, tie):
    """The web in which the ends of the tie are one spot."""
    spots, ties = web
    low, high = ties[tie]
    others = ties[:tie] + ties[tie + 1:]
    if low == high:
        return (spots, others)
    names = [spot - 1 if spot > high else spot for spot in range(spots)]
    names[high] = low
    moved = [(names[a], names[b]) for a, b in others]
    return (spots - 1, tuple([(min(ends), max(ends)) for ends in moved]))
