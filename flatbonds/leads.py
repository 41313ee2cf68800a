"""Leads, which take a web, and perhaps a laying, onto another one."""

from flatbonds.bounds import MAX_LISTED
from flatbonds.errors import NotFlat, NotWhole, TooMany
from flatbonds.helpers import is_pair, is_row, orders_of, replaced
from flatbonds.layings import all_layings, is_flat
from flatbonds.likeness import many_unlike
from flatbonds.matching import ends_led, spots_led, ties_by_ends, ties_led
from flatbonds.symmetries import behind, symmetries_of
from flatbonds.turns import dart_spots
from flatbonds.walks import Walker
from flatbonds.webs import pieces


def lead_holds(web, other, value):
    """Whether value is a lead from the web to the other one."""
    if not is_pair(value):
        return False
    for row, many, limit in zip(value, (web[0], len(web[1])), (other[0], len(other[1]))):
        if not is_row(row, limit) or len(row) != many or sorted(row) != list(range(limit)):
            return False
    spots, ties = value
    return all([ends_led(spots, ends) == other[1][tie] for ends, tie in zip(web[1], ties)])


def lead(web, other):
    """Any lead from the web to the other one, None if there is none."""
    spots = spots_led(web, other)
    return None if spots is None else (spots, ties_led(ties_by_ends(web), ties_by_ends(other), spots))


def own_leads(web):
    """The ascending tuple of all leads from the web to itself; TooMany if there are more than MAX_LISTED."""
    rows = ties_by_ends(web)
    orders = _orders_of_ties(rows)
    symmetries = symmetries_of(web, MAX_LISTED // len(orders))
    if symmetries is None:
        raise TooMany(MAX_LISTED)
    found = [(symmetries.same, tuple(order)) for order in orders]
    for choice in symmetries.choices:
        lasts = [(way, ties_led(rows, rows, way)) for way in choice.values()]
        found = [(behind(spots, way), behind(ties, led)) for way, led in lasts for spots, ties in found]
    return tuple(sorted(found))


def _orders_of_ties(rows):
    """All orders of the ties in which each stands at the place of one of its row; TooMany if above MAX_LISTED."""
    found = [list(range(sum([len(ties) for ties in rows.values()])))]
    for ties in rows.values():
        many = len(found)
        for further in range(2, len(ties) + 1):
            many = many * further
        if many > MAX_LISTED:
            raise TooMany(MAX_LISTED)
        found = [replaced(row, ties, order) for row in found for order in orders_of(ties)]
    return found


def laying_lead(web, laying, other, last):
    """Any lead from the web to the other one that keeps both layings, None if there is none; NotWhole, NotFlat."""
    _ask([web, other], [laying, last])
    one, two = Walker(web, laying), Walker(other, last)
    look, darts = one.firsts()
    further_look, further_darts = two.firsts()
    if look != further_look or len(darts) != len(further_darts):
        return None
    code, order = one.walk(darts[0], 0)
    for dart in further_darts:
        for which in (0, 1):
            further_code, further_order = two.walk(dart, which)
            if further_code == code:
                return _lead_by(web, order, other, further_order)
    return None


def _lead_by(web, order, other, further):
    """The lead that leads the darts in the one order to those in the further one."""
    spots, ties = [None] * web[0], [None] * len(web[1])
    at, goals = dart_spots(web), dart_spots(other)
    for dart, goal in zip(order, further):
        spots[at[dart]] = goals[goal]
        ties[dart // 2] = goal // 2
    return (tuple(spots), tuple(ties))


def laying_code(web, laying):
    """A tuple of integers, equal for layings of two webs exactly if a lead keeps them; NotWhole, NotFlat."""
    _ask([web], [laying])
    walker = Walker(web, laying)
    _, darts = walker.firsts()
    return tuple(min([walker.walk(dart, which)[0] for dart in darts for which in (0, 1)]))


def unlike_layings(web):
    """How many flat layings the web has, at most, of which no lead keeps two; NotWhole, TooMany."""
    _ask([web], [])
    return many_unlike(web, all_layings(web))


def _ask(webs, layings):
    """Raises NotWhole if one of the webs is not one piece, or has no tie, NotFlat if the laying of one is not flat."""
    for web in webs:
        if not web[1] or len(pieces(web)) > 1:
            raise NotWhole()
    for web, laying in zip(webs, layings):
        if not is_flat(web, laying):
            raise NotFlat()
