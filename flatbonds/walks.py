"""Walks through the layings of whole webs: all darts, numbered as one comes to them from a first one.

From each dart, in the order of the numbers, one goes to its mate; if this has none yet, it and the darts behind it in
its turn get the next ones. The code of a walk tells all that is met: how many darts each new turn has, as an integer
below 0, so that it is not taken for a number, and the number of each mate. So two walks with one code tell how to lead
the one laying to the other.
"""

from flatbonds.turns import dart_spots, next_darts, rows_of_faces, turned_over


class Walker:
    """A laying as it is walked through, either way round."""

    def __init__(self, web, laying):
        spots = dart_spots(web)
        other = [turned_over(turn) for turn in laying]
        self.afters = [next_darts(web, laying), next_darts(web, other)]
        self.sizes = [len(laying[spot]) for spot in spots]
        self.looks = _looks(web, laying, self.sizes)

    def walk(self, first, which):
        """The code of the walk from this dart, the turns being gone round either way, and the darts in order."""
        after = self.afters[which]
        numbers = {}
        order = []
        code = []
        self._enter(after, first, numbers, order, code)
        at = 0
        while at < len(order):
            mate = order[at] ^ 1
            if mate not in numbers:
                self._enter(after, mate, numbers, order, code)
            code.append(numbers[mate])
            at += 1
        return (code, order)

    def _enter(self, after, first, numbers, order, code):
        """Numbers the darts of a turn from the first one on; how many they are goes into the code."""
        code.append(-self.sizes[first])
        dart = first
        while dart not in numbers:
            numbers[dart] = len(order)
            order.append(dart)
            dart = after[dart]

    def firsts(self):
        """The darts, as few as can be told, one of which walks begin with: a look of theirs, and the darts with it."""
        rows = {}
        for dart, look in enumerate(self.looks):
            rows.setdefault(look, []).append(dart)
        _, look = min([(len(row), look) for look, row in rows.items()])
        return (look, rows[look])


def _looks(web, laying, sizes):
    """For each dart what is seen of it either way round: how many stand with it and with its mate, and its faces."""
    around = [0] * len(sizes)
    for face in rows_of_faces(web, laying):
        for dart in face:
            around[dart] = len(face)
    return [(sizes[dart], sizes[dart ^ 1], *sorted([around[dart], around[dart ^ 1]])) for dart in range(len(sizes))]
