"""Webs with the same rings, and the changes that lead from one to another."""

from flatbonds.changes import change_done
from flatbonds.errors import BadChange, Unfit
from flatbonds.forms import way_to_form
from flatbonds.realising import web_with_rings
from flatbonds.rings import first_forest, forest_rings, is_even


def changed(web, value):
    """The web to which a change leads; BadChange if value is no change that can be done."""
    found = change_done(web, value)
    if found is None:
        raise BadChange()
    return found


def ring_form(web):
    """The one web that is told for all webs with as many ties and the same rings as the web."""
    return way_to_form(web)[1]


def form_way(web):
    """Any tuple of changes that lead, one after another, from the web to its ring form."""
    return way_to_form(web)[0]


def form_way_holds(web, value):
    """Whether value is a tuple of changes that lead from the web to its ring form."""
    if not isinstance(value, tuple):
        return False
    at = web
    for change in value:
        at = change_done(at, change)
        if at is None:
            return False
    return at == ring_form(web)


def same_rings(web, other):
    """Whether both webs have the same rings; Unfit if they have not as many ties."""
    return rings_part(web, other) is None


def rings_part(web, other):
    """A pair of 0 and a ring of web that is none of other, or of 1 and one of other that is none of web; or None.

    None is told of webs with the same rings; Unfit if they have not as many ties.
    """
    if len(web[1]) != len(other[1]):
        raise Unfit()
    # Each even pick is a sum of rings with a tie beside the first forest: so these are enough to look at.
    for which, one, further in ((0, web, other), (1, other, web)):
        for ring in forest_rings(one):
            if not is_even(further, ring):
                return (which, ring)
    return None


def as_ties(web, names):
    """The web in which the tie names[0] stands first, then names[1], and so on."""
    return (web[0], tuple([web[1][tie] for tie in names]))


def ring_of_web(count, picks):
    """Any web with so many ties whose rings are just these picks, None if there is none."""
    return web_with_rings(count, picks)


def least_spots(web):
    """How many spots a web has at least that has as many ties and the same rings as the web."""
    return len(first_forest(web)) + 1
