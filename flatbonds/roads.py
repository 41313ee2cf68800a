"""Roads apart and stops of two spots, and the ears and risings of blocks."""

from flatbonds.blocks import is_block
from flatbonds.errors import NotBlock, SameSpot
from flatbonds.helpers import (
    exits, first_way, flooded, is_ascending, is_pair, is_row, mask_of, neighbours, reached, spots_along
)
from flatbonds.webs import spots_of


def roads_apart(web, spot, last):
    """As many roads apart from spot to last as can be; SameSpot if both are one."""
    if spot == last:
        raise SameSpot()
    straight = _ties_of(web, spot, last)
    flow, _ = _most_flow(_without(web, straight), spot, last)
    return tuple([(tie,) for tie in straight] + _roads_of(web, flow, spot, last))


def stop(web, spot, last):
    """A stop of the two spots with as few things as can be; SameSpot if both are one."""
    if spot == last:
        raise SameSpot()
    straight = _ties_of(web, spot, last)
    _, back = _most_flow(_without(web, straight), spot, last)
    # One more road could come to each of these spots, but none could leave it.
    spots = [at for at in range(web[0]) if 2 * at in back and 2 * at + 1 not in back]
    return (tuple(spots), straight)


def _ties_of(web, spot, last):
    """The ascending tuple of the ties whose ends are these two spots."""
    ends = (min(spot, last), max(spot, last))
    return tuple([tie for tie, pair in enumerate(web[1]) if pair == ends])


def _without(web, pick):
    """For each spot the tuple of the other spots to which it has a tie that is not in the pick."""
    places = [tie for tie in range(len(web[1])) if tie not in pick]
    return [tuple([further for _, further in row]) for row in exits(web, places)]


def _most_flow(beside, spot, last):
    """The steps of as many roads as can be, and the nodes to which one more could come from spot, if not to last.

    Each spot has two nodes: 2 * at, where roads come to it, and 2 * at + 1, where they leave it; one road at most
    goes from the one to the other. A step is a pair of nodes. Both are told by the keys of a dict.
    """
    flow = {}
    back = reached(_open_steps(beside, flow), 2 * spot + 1)
    while 2 * last in back:
        node = 2 * last
        while back[node] is not None:
            _, before = back[node]
            if (node, before) in flow:
                del flow[(node, before)]
            else:
                flow[(before, node)] = True
            node = before
        back = reached(_open_steps(beside, flow), 2 * spot + 1)
    return (flow, back)


def _open_steps(beside, flow):
    """For each node the pairs of a step and a node, to which one more road can go on, also by taking a step back."""
    rows = []
    for at, near in enumerate(beside):
        come, leave = 2 * at, 2 * at + 1
        through = (come, leave) in flow
        onward = [2 * further for further in near]
        turned = [2 * further + 1 for further in near if (2 * further + 1, come) in flow]
        rows.append([(come, node) for node in (turned if through else [leave, *turned])])
        rows.append([(leave, node) for node in ([come, *onward] if through else onward)])
    return rows


def _roads_of(web, flow, spot, last):
    """The roads that the steps of the flow make."""
    after = {}
    for step in flow:
        after.setdefault(step[0] // 2, []).append(step[1] // 2)
    found = []
    for first in after.get(spot, []):
        line = [spot, first]
        while line[-1] != last:
            line.append([at for at in after[line[-1]] if at != line[-1]][0])
        found.append(tuple([_ties_of(web, line[at], line[at + 1])[0] for at in range(len(line) - 1)]))
    return found


def roads_hold(web, spot, last, value):
    """Whether value is a tuple of roads apart from spot to last; SameSpot if both are one."""
    if spot == last:
        raise SameSpot()
    if not isinstance(value, tuple):
        return False
    spots, ties = 0, 0
    for road in value:
        line = spots_along(web, spot, road)
        if line is None or line[-1] != last:
            return False
        if mask_of(line[1:-1]) & spots or mask_of(road) & ties:
            return False
        spots = spots | mask_of(line[1:-1])
        ties = ties | mask_of(road)
    return True


def stop_holds(web, spot, last, value):
    """Whether value is a stop of the two spots; SameSpot if both are one."""
    if spot == last:
        raise SameSpot()
    if not is_pair(value) or not is_ascending(value[0], web[0]) or not is_ascending(value[1], len(web[1])):
        return False
    spots, ties = value
    straight = _ties_of(web, spot, last)
    if spot in spots or last in spots or any([tie not in straight for tie in ties]):
        return False
    kept = tuple([ends for tie, ends in enumerate(web[1]) if tie not in ties])
    allowed = ((1 << web[0]) - 1) & ~mask_of(spots)
    return not flooded(1 << spot, allowed, neighbours((web[0], kept))) >> last & 1


def ears(web, tie):
    """Ears that begin with the tie; NotBlock if the web is no block."""
    if not is_block(web):
        raise NotBlock()
    if len(web[1]) == 1:
        return ((tie,),)
    first, last = web[1][tie]
    others = [other for other in range(len(web[1])) if other != tie]
    ear = (tie, *first_way(exits(web, others), last, 1 << first))
    found = [ear]
    covered = mask_of(spots_of(web, ear))
    left = [other for other in others if other not in ear]
    while left:
        ear = _next_ear(web, left, covered)
        found.append(ear)
        covered = covered | mask_of(spots_of(web, ear))
        left = [other for other in left if other not in ear]
    return tuple(found)


def _next_ear(web, left, covered):
    """A road of ties that are left, from a covered spot to another one, at none between."""
    tie = [other for other in left if mask_of(web[1][other]) & covered][0]
    start, further = web[1][tie]
    if not covered >> start & 1:
        start, further = further, start
    others = [other for other in left if start not in web[1][other]]
    return (tie, *first_way(exits(web, others), further, covered))


def ears_hold(web, tie, value):
    """Whether value is ears of the web that begin with the tie."""
    many = len(web[1])
    if not isinstance(value, tuple) or not all([is_row(ear, many) and len(ear) > 0 for ear in value]):
        return False
    if sorted([each for ear in value for each in ear]) != list(range(many)):
        return False
    if many == 0 or value[0][0] != tie:
        return False
    if many > 1 and not _leads_round(web, value[0]):
        return False
    covered = mask_of(spots_of(web, value[0]))
    for ear in value[1:]:
        if not any([_is_ear(covered, spots_along(web, start, ear)) for start in web[1][ear[0]]]):
            return False
        covered = covered | mask_of(spots_of(web, ear))
    return True


def _leads_round(web, row):
    """Whether the ties of the row, which are different ones, lead in this order round a ring."""
    if len(row) == 1:
        return web[1][row[0]][0] == web[1][row[0]][1]
    for start in web[1][row[0]]:
        line = spots_along(web, start, row[:-1])
        if line is not None and web[1][row[-1]] == (min(start, line[-1]), max(start, line[-1])):
            return True
    return False


def _is_ear(covered, line):
    """Whether the line of spots leads from a covered one to another one, at none between."""
    if line is None:
        return False
    return mask_of(line) & covered == (1 << line[0]) | (1 << line[-1])


def rising(web, tie):
    """A tuple of spots by which the web rises along the tie; NotBlock if it is no block."""
    first, *further = ears(web, tie)
    low, high = web[1][tie]
    if low == high:
        return (low,)
    order = [low, high]
    rest_of_ring = first[1:]
    for ear in [rest_of_ring, *further]:
        if len(ear) > 1:
            start = [spot for spot in web[1][ear[0]] if spot in order][0]
            order = _put_between(order, spots_along(web, start, ear))
    return tuple(order)


def _put_between(order, line):
    """The order with the spots between the ends of the line right behind the end that comes first in it."""
    if order.index(line[0]) > order.index(line[-1]):
        line = line[::-1]
    at = order.index(line[0]) + 1
    return order[:at] + line[1:-1] + order[at:]


def rising_holds(web, tie, value):
    """Whether the web rises along the tie by value."""
    spots, ties = web
    if not is_row(value, spots) or sorted(value) != list(range(spots)):
        return False
    if (value[0], value[-1]) != ties[tie]:
        return False
    beside = neighbours(web)
    ahead = 1 << value[0]
    for spot in value[1:-1]:
        behind = ((1 << spots) - 1) & ~ahead & ~(1 << spot)
        if not beside[spot] & ahead or not beside[spot] & behind:
            return False
        ahead = ahead | (1 << spot)
    return True
