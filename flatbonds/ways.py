"""Shortest ways from one flat laying of a small whole web to another one."""

from flatbonds.helpers import places_of
from flatbonds.runs import flipped, hopped, run_in, spots_had
from flatbonds.turns import turned_over


class Ways:
    """The picks of a web that can be loose, and which of them stand in one run in the turns that were seen."""

    def __init__(self, web):
        self.masks = []
        self.picks = []
        self.spots = []
        self.shared = []
        for mask in range(1, (1 << len(web[1])) - 1):
            spots = spots_had(web, mask)
            shared = places_of(spots[1])
            if len(shared) < 3:
                self.masks.append(mask)
                self.picks.append(places_of(mask))
                self.spots.append(spots)
                self.shared.append(shared)
        self.known = {}

    def _runs_at(self, spot, turn):
        """The mask of the places of those picks that stand in one run in the turn of the spot, or do not share it."""
        if (spot, turn) not in self.known:
            found = 0
            for place, mask in enumerate(self.masks):
                if spot not in self.shared[place] or run_in(turn, mask) is not None:
                    found = found | (1 << place)
            self.known[(spot, turn)] = found
        return self.known[(spot, turn)]

    def moves_from(self, laying):
        """Triples, for each move, of the laying to which it leads, the move, and the move that leads back."""
        found = [(tuple([turned_over(turn) for turn in laying]), ("over",), ("over",))]
        loose = (1 << len(self.masks)) - 1
        for spot, turn in enumerate(laying):
            loose = loose & self._runs_at(spot, turn)
        for place in places_of(loose):
            mask, pick, shared = self.masks[place], self.picks[place], self.shared[place]
            flip = ("flip", pick)
            found.append((flipped(laying, self.spots[place], mask), flip, flip))
            if len(shared) == 1:
                _, others = run_in(laying[shared[0]], mask)
                hop_back = ("hop", pick, others[-1])
                for dart in others[:-1]:
                    found.append((hopped(laying, shared[0], mask, dart), ("hop", pick, dart), hop_back))
        return found


def shortest_way(web, laying, last):
    """As few moves as can be that lead from the one laying to the other one."""
    if laying == last:
        return ()
    ways = Ways(web)
    # For each laying that was come to, from either end, the laying ahead of it and the move between the two.
    ahead, behind = {laying: None}, {last: None}
    fresh, stale = [laying], [last]
    while True:
        met = [each for each in fresh if each in behind] + [each for each in stale if each in ahead]
        if met:
            return _told(ahead, met[0])[::-1] + _told(behind, met[0])
        if len(fresh) <= len(stale):
            fresh = _further(ways, ahead, fresh, False)
        else:
            stale = _further(ways, behind, stale, True)


def _further(ways, known, fresh, is_backward):
    """The layings to which one move leads from the fresh ones that were not known; they are known then."""
    found = []
    for laying in fresh:
        for further, move, move_back in ways.moves_from(laying):
            if further not in known:
                known[further] = (laying, move_back if is_backward else move)
                found.append(further)
    return found


def _told(known, laying):
    """The moves between the laying and the one from which one came to it, the last one first."""
    moves = []
    while known[laying] is not None:
        laying, move = known[laying]
        moves.append(move)
    return tuple(moves)
