"""The ways in which a web can be led onto itself, spot by spot.

A row of base spots is chosen, by each of which the cells are split, till each spot is alone. From the last base spot
to the first one it is found to which spots each can be led while those ahead of it stay. A way to lead all spots is
told by one of these for each base spot. Ways are told by rows of the spots to which the spots are led.
"""

from flatbonds.cells import Net, cells_by_loops, split_apart, split_on
from flatbonds.matching import matched, row_of


class Symmetries:
    """What makes all ways to lead a web onto itself."""

    def __init__(self, spots):
        self.same = tuple(range(spots))
        # Some ways, of which all others are made.
        self.makers = []
        # For each base spot, the last one first, a dict of one way for each spot to which it can be led.
        self.choices = []
        self.many = 1

    def orbit(self, spot):
        """For each spot to which the ways known lead this one a way that leads it there."""
        found = {spot: self.same}
        queue = [spot]
        while queue:
            at = queue.pop()
            for way in self.makers:
                if way[at] not in found:
                    found[way[at]] = behind(found[at], way)
                    queue.append(way[at])
        return found


def behind(way, last):
    """The way that leads as the one and then as the last one does."""
    return tuple([last[spot] for spot in way])


def symmetries_of(web, most):
    """The symmetries of the web; None if there are more than so many, unless most is None."""
    net = Net(web)
    found = Symmetries(web[0])
    for cells, place in _levels(net)[::-1]:
        _lead_base(net, cells, place, found)
        if most is not None and found.many > most:
            return None
    return found


def _levels(net):
    """For each base spot the cells when those ahead of it are alone, and the place of that whose first spot it is."""
    cells, _ = cells_by_loops(net)
    split_on(net, cells, list(cells.members), None)
    levels = []
    place = cells.several()
    while place is not None:
        levels.append((cells, place))
        cells, _ = split_apart(net, cells, place, cells.members[place][0], None)
        place = cells.several()
    return levels


def _lead_base(net, cells, place, found):
    """Finds out to which spots of its cell the base spot can be led while the cells stay; notes one way for each."""
    base, *others = cells.members[place]
    split, marks = split_apart(net, cells, place, base, None)
    orbit = found.orbit(base)
    without = {}
    for spot in others:
        if spot in orbit or spot in without:
            continue
        tried = split_apart(net, cells, place, spot, marks)
        led = None if tried is None else matched(net, split, net, tried[0])
        if led is None:
            without.update(found.orbit(spot))
        else:
            found.makers.append(row_of(led))
            orbit = found.orbit(base)
    found.choices.append(orbit)
    found.many = found.many * len(orbit)
