"""Moves: from each flat laying of a whole web to others."""

from flatbonds.bounds import MAX_MOVED, MAX_WAYS
from flatbonds.errors import BadMove, NotFlat, NotWhole, TooMany
from flatbonds.helpers import is_below, is_pair, mask_of, places_of
from flatbonds.layings import how_many, is_flat, over
from flatbonds.runs import flipped, hopped, is_loose_in, run_in, spots_had
from flatbonds.ways import shortest_way
from flatbonds.webs import is_pick, pieces


def moved(web, laying, value):
    """The laying to which the move leads; NotWhole, NotFlat, and BadMove if value is no move that can be done."""
    _ask(web, [laying])
    found = _led(web, laying, value)
    if found is None:
        raise BadMove()
    return found


def is_loose(web, laying, pick):
    """Whether the pick is loose in the laying; NotWhole, NotFlat."""
    _ask(web, [laying])
    return is_loose_in(web, laying, mask_of(pick))


def back(web, laying, move):
    """Any move that leads back to the laying from where the move leads; NotWhole, NotFlat, and BadMove."""
    _ask(web, [laying])
    if _led(web, laying, move) is None:
        raise BadMove()
    if move[0] != "hop":
        return move
    _, others = run_in(laying[_shared(web, move[1])[0]], mask_of(move[1]))
    return ("hop", move[1], others[-1])


def _ask(web, layings):
    """Raises NotWhole if the web is not one piece, or has no tie, NotFlat if one of the layings is not flat."""
    if not web[1] or len(pieces(web)) > 1:
        raise NotWhole()
    for laying in layings:
        if not is_flat(web, laying):
            raise NotFlat()


def _shared(web, pick):
    """The ascending tuple of the spots that the pick shares."""
    return places_of(spots_had(web, mask_of(pick))[1])


def _led(web, laying, value):
    """The laying to which value leads, None if it is no move that can be done."""
    if not isinstance(value, tuple) or not value or not isinstance(value[0], str):
        return None
    if value == ("over",):
        return over(web, laying)
    if len(value) < 2 or not is_pick(web, value[1]) or not is_loose_in(web, laying, mask_of(value[1])):
        return None
    if value[0] == "flip" and is_pair(value):
        mask = mask_of(value[1])
        return flipped(laying, spots_had(web, mask), mask)
    if value[0] != "hop" or len(value) != 3:
        return None
    shared = _shared(web, value[1])
    if len(shared) != 1 or not is_below(value[2], 2 * len(web[1])):
        return None
    _, others = run_in(laying[shared[0]], mask_of(value[1]))
    return hopped(laying, shared[0], mask_of(value[1]), value[2]) if value[2] in others else None


def way(web, laying, last):
    """Any tuple of moves, as few as can be, that lead from laying to last.

    NotWhole, NotFlat, and TooMany if the web has more than MAX_MOVED ties, or more than MAX_WAYS flat layings.
    """
    _ask(web, [laying, last])
    if len(web[1]) > MAX_MOVED:
        raise TooMany(MAX_MOVED)
    if how_many(web) > MAX_WAYS:
        raise TooMany(MAX_WAYS)
    return shortest_way(web, laying, last)


def way_holds(web, laying, last, value):
    """Whether value is a tuple of moves that lead from laying to last; NotWhole, NotFlat."""
    _ask(web, [laying, last])
    if not isinstance(value, tuple):
        return False
    at = laying
    for move in value:
        at = _led(web, at, move)
        if at is None:
            return False
    return at == last


def moves_between(web, laying, last):
    """How many moves way has; it raises what way does."""
    return len(way(web, laying, last))
