"""How many flat layings of a web are unlike one another: no lead from the web to itself keeps two of them.

Such leads are made of a few ones, the makers. So it is enough to see where these take each laying. A laying is told by
the turns of some spots, by which all layings can be told from one another.
"""

from flatbonds.helpers import replaced
from flatbonds.matching import ties_by_ends, ties_led
from flatbonds.symmetries import symmetries_of
from flatbonds.turns import turn_of


class Maker:
    """What takes each dart to another one, and perhaps all turns over."""

    def __init__(self, way, darts, is_over):
        # For each spot the one that is led to it.
        self.source = [way.index(spot) for spot in range(len(way))]
        self.darts = darts
        self.is_over = is_over
        self.known = {}

    def led(self, laying, spots):
        """The turns of these spots in the laying to which this one is led."""
        return tuple([self._turn(laying[self.source[spot]]) for spot in spots])

    def _turn(self, turn):
        """The turn to which this one is led."""
        if turn not in self.known:
            row = [self.darts[dart] for dart in turn]
            self.known[turn] = turn_of(row[::-1] if self.is_over else row)
        return self.known[turn]


def many_unlike(web, layings):
    """How many of these layings, all flat ones of the web, are unlike one another."""
    if len(layings) < 2:
        return len(layings)
    makers = _makers(web)
    spots = _telling_spots(layings)
    left = {tuple([laying[spot] for spot in spots]): laying for laying in layings}
    many = 0
    while left:
        many += 1
        first = next(iter(left), None)
        queue = [left[first]]
        del left[first]
        # When no laying is left, it is of no use to see where those in the queue are taken.
        while queue and left:
            at = queue.pop()
            for maker in makers:
                further = maker.led(at, spots)
                if further in left:
                    queue.append(left[further])
                    del left[further]
    return many


def _telling_spots(layings):
    """Spots by whose turns all the layings can be told from one another."""
    varied = [spot for spot in range(len(layings[0])) if len(set([laying[spot] for laying in layings])) > 1]
    found = []
    rows = [() for _ in layings]
    many = 1
    for spot in varied:
        if many < len(layings):
            further = [(*row, laying[spot]) for row, laying in zip(rows, layings)]
            more = len(set(further))
            if more > many:
                found.append(spot)
                rows, many = further, more
    return found


def _makers(web):
    """Makers of all that leads darts to darts, those of a tie to those of one, those of a spot to those of one."""
    same = tuple(range(web[0]))
    places = list(range(len(web[1])))
    darts = list(range(2 * len(places)))
    rows = ties_by_ends(web)
    found = [Maker(same, darts, True)]
    for way in symmetries_of(web, None).makers:
        found.append(Maker(way, _darts_led(web, way, ties_led(rows, rows, way)), False))
    for (a, b), ties in rows.items():
        first = 2 * ties[0]
        if a == b:
            found.append(Maker(same, replaced(darts, [first, first + 1], [first + 1, first]), False))
        # All orders of some ties are made of two: the first ones change places, and each one goes to the next place.
        for many in sorted(set([2, len(ties)])):
            if 1 < many <= len(ties):
                led = replaced(places, ties[:many], ties[1:many] + ties[:1])
                found.append(Maker(same, _darts_led(web, same, led), False))
    return found


def _darts_led(web, way, ties):
    """The darts to which the darts are led, if the spots are led by the way, and the ties to these."""
    found = []
    for tie, (a, _) in enumerate(web[1]):
        first = 2 * ties[tie] + (0 if web[1][ties[tie]][0] == way[a] else 1)
        found.extend([first, first ^ 1])
    return found
