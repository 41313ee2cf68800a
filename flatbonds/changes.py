"""Changes of webs that leave their rings as they are."""

from flatbonds.helpers import is_below, mask_of, places_of
from flatbonds.runs import spots_had
from flatbonds.webs import is_pick, pieces


def change_done(web, value):
    """The web to which a change leads, None if value is no change that can be done."""
    if not isinstance(value, tuple) or len(value) < 2 or not isinstance(value[0], str):
        return None
    word = value[0]
    if word == "twist" and len(value) == 2:
        return _twisted(web, value[1])
    if word == "split" and len(value) == 2:
        return _split_off(web, value[1])
    if word == "glue" and len(value) == 3:
        return _glued(web, value[1], value[2])
    if word == "names" and len(value) == 2:
        return _named(web, value[1])
    return None


def renamed(web, spots, names):
    """The web with so many spots in which each spot is told by its new name."""
    ends = [(names[a], names[b]) for a, b in web[1]]
    return (spots, tuple([(min(pair), max(pair)) for pair in ends]))


def _shared(web, value):
    """The spots that value shares, if it is a pick, and there is a tie in it and one in its rest; otherwise None."""
    if not is_pick(web, value) or not 0 < len(value) < len(web[1]):
        return None
    return places_of(spots_had(web, mask_of(value))[1])


def _with_names(web, spots, pick, names):
    """The web with so many spots in which the ties of the pick stand at the new names of their spots."""
    chosen = mask_of(pick)
    ends = []
    for tie, (a, b) in enumerate(web[1]):
        if chosen >> tie & 1:
            a, b = sorted([names.get(a, a), names.get(b, b)])
        ends.append((a, b))
    return (spots, tuple(ends))


def _twisted(web, pick):
    """The web with the pick twisted, None if this can't be done."""
    shared = _shared(web, pick)
    if shared is None or len(shared) != 2:
        return None
    low, high = shared
    return _with_names(web, web[0], pick, {low: high, high: low})


def _split_off(web, pick):
    """The web with the pick split off, None if this can't be done."""
    shared = _shared(web, pick)
    if shared is None or len(shared) != 1:
        return None
    return _with_names(web, web[0] + 1, pick, {shared[0]: web[0]})


def _glued(web, spot, further):
    """The web with the two spots glued, None if this can't be done."""
    if not is_below(spot, web[0]) or not is_below(further, web[0]) or spot >= further:
        return None
    if [piece for piece in pieces(web) if spot in piece and further in piece]:
        return None
    names = [at - 1 if at > further else at for at in range(web[0])]
    names[further] = spot
    return renamed(web, web[0] - 1, names)


def _named(web, names):
    """The web with its spots told by these names, None if this can't be done."""
    if not isinstance(names, tuple) or len(names) != web[0]:
        return None
    told = [name for name in names if name is not None]
    if not told or not all([is_below(name, len(told)) for name in told]) or len(set(told)) < len(told):
        return None
    if [tie for a, b in web[1] for tie in (a, b) if names[tie] is None]:
        return None
    return renamed(web, len(told), names)
