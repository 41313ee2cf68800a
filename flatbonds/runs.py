"""Runs: darts of a pick that stand one behind another in a turn, and what becomes of a laying when they are moved.

A pick is told by its mask here.
"""

from flatbonds.helpers import mask_of, places_of
from flatbonds.turns import turn_of, turned_over
from flatbonds.webs import spots_of


def run_in(turn, mask):
    """The pair of the run of the pick in the turn and the other darts, from behind it on; None if there is none."""
    inside = [mask >> (dart // 2) & 1 for dart in turn]
    begins = [at for at in range(len(turn)) if inside[at] and not inside[at - 1]]
    if len(begins) != 1:
        return None
    at, many = begins[0], sum(inside)
    turned = turn[at:] + turn[:at]
    return (turned[:many], turned[many:])


def spots_had(web, mask):
    """The masks of the spots that the pick has, and of those that it shares."""
    inside = places_of(mask)
    rest = [tie for tie in range(len(web[1])) if not mask >> tie & 1]
    has = mask_of(spots_of(web, inside))
    return (has, has & mask_of(spots_of(web, rest)))


def is_loose_in(web, laying, mask):
    """Whether the pick is loose in the laying of the web, which is whole."""
    if mask == 0 or mask == (1 << len(web[1])) - 1:
        return False
    shared = places_of(spots_had(web, mask)[1])
    return len(shared) < 3 and all([run_in(laying[spot], mask) is not None for spot in shared])


def flipped(laying, spots, mask):
    """The laying in which the pick, which is loose, goes round the other way; spots is what spots_had tells of it."""
    has, shared = spots
    turns = list(laying)
    for spot in places_of(has):
        if shared >> spot & 1:
            run, others = run_in(laying[spot], mask)
            turns[spot] = turn_of(run[::-1] + others)
        else:
            turns[spot] = turned_over(laying[spot])
    return tuple(turns)


def hopped(laying, spot, mask, dart):
    """The laying in which the run of the pick at the spot stands right behind a dart of another tie there."""
    run, others = run_in(laying[spot], mask)
    at = others.index(dart) + 1
    return (*laying[:spot], turn_of(others[:at] + run + others[at:]), *laying[spot + 1:])
