"""The layings of webs: their faces, the flat ones, and what can be put to them or taken out of them."""

from flatbonds.blocks import blocks
from flatbonds.bounds import MAX_LISTED
from flatbonds.errors import NotFlat, TooMany
from flatbonds.facing import facing_masks
from flatbonds.filling import filling_ties
from flatbonds.flatness import flat_rows, lies_flat
from flatbonds.frames import all_layings_of, frames_of
from flatbonds.helpers import is_row, mask_of
from flatbonds.turns import dart_spots, darts_by_spot, rows_of_faces, turn_of, turned_over
from flatbonds.webs import pieces


def laying_error(web, value):
    """What is wrong with value as a laying of the web: a pair of a spot, or None, and a word; None if nothing is."""
    if not isinstance(value, tuple) or len(value) != web[0]:
        return (None, "laying")
    known = darts_by_spot(web)
    for spot, turn in enumerate(value):
        if not _is_turn(turn, known[spot], 2 * len(web[1])):
            return (spot, "turn")
    return None


def _is_turn(value, darts, limit):
    """Whether value is a turn of these darts, which are all below the limit."""
    return is_row(value, limit) and sorted(value) == darts and list(value[:1]) == darts[:1]


def faces(web, laying):
    """The ascending tuple of the faces of the laying, flat or not."""
    return tuple([tuple(face) for face in rows_of_faces(web, laying)])


def is_flat(web, laying):
    """Whether the laying is flat."""
    spots, ties = web
    many = len(rows_of_faces(web, laying)) + len([turn for turn in laying if turn == ()])
    return spots - len(ties) + many == 2 * len(pieces(web))


def _ask_flat(web, laying):
    """Raises NotFlat if the laying is not flat."""
    if not is_flat(web, laying):
        raise NotFlat()


def over(web, laying):
    """The laying that goes round the other way at each spot."""
    return tuple([turned_over(laying[spot]) for spot in range(web[0])])


def lay(web):
    """Any flat laying of the web, None if there is none."""
    rows = flat_rows(web[0], web[1])
    return None if rows is None else tuple([turn_of(row) for row in rows])


def how_many(web):
    """How many flat layings the web has."""
    return _count(web, frames_of(web)) if lies_flat(web[0], web[1]) else 0


def _count(web, frames):
    """How many flat layings a web with these frames has, if it has some."""
    count = 1
    for frame in frames:
        if frame.kind == "firm":
            count = 2 * count
        elif frame.kind == "bundle":
            count = count * _product(2, len(frame.members) - 1)
    for counts in _darts_of_blocks(web):
        many, darts = len(counts), sum(counts)
        if many > 1:
            for each in counts:
                count = count * each
            count = count * _product(darts - many + 2, darts - 1)
    return count


def _product(low, high):
    """The product of the integers from low to high."""
    result = 1
    for each in range(low, high + 1):
        result = result * each
    return result


def _darts_of_blocks(web):
    """For each spot the numbers of the darts that its blocks have there."""
    rows = [{} for _ in range(web[0])]
    for number, block in enumerate(blocks(web)):
        for tie in block:
            for spot in web[1][tie]:
                rows[spot][number] = rows[spot].get(number, 0) + 1
    return [list(row.values()) for row in rows]


def all_layings(web):
    """The ascending tuple of all flat layings of the web; TooMany if there are more than MAX_LISTED."""
    if not lies_flat(web[0], web[1]):
        return ()
    frames = frames_of(web)
    if _count(web, frames) > MAX_LISTED:
        raise TooMany(MAX_LISTED)
    return tuple(sorted(all_layings_of(web, frames)))


def open_pairs(web):
    """The ascending tuple of the pairs of spots between which a tie can be put so that the web has a flat laying."""
    if not lies_flat(web[0], web[1]):
        return ()
    whole = [0] * web[0]
    for piece in pieces(web):
        for spot in piece:
            whole[spot] = mask_of(piece)
    open_to = [seen | ~whole[spot] for spot, seen in enumerate(facing_masks(web))]
    return tuple([(a, b) for a in range(web[0]) for b in range(a + 1, web[0]) if open_to[a] >> b & 1])


def filled(web):
    """The web with ties behind its own till no further one can be put to it; NotFlat if it has no flat laying."""
    if not lies_flat(web[0], web[1]):
        raise NotFlat()
    return (web[0], (*web[1], *filling_ties(web)))


def thinned(web, laying, pick):
    """The laying of the web without the ties of the pick that is the laying without their darts; NotFlat."""
    _ask_flat(web, laying)
    gone = mask_of(pick)
    names, stay = {}, 0
    for tie in range(len(web[1])):
        if not gone >> tie & 1:
            names[2 * tie], names[2 * tie + 1] = stay, stay + 1
            stay += 2
    return tuple([turn_of([names[dart] for dart in turn if dart in names]) for turn in laying])


def put_in(web, laying, tie):
    """Any flat laying of the web with this pair behind its ties that is the laying without it; None if there is none.

    NotFlat if the laying is not flat.
    """
    _ask_flat(web, laying)
    first, last = tie
    dart = 2 * len(web[1])
    if first == last:
        return _with_turn(laying, first, (*laying[first], dart, dart + 1))
    ahead = _darts_at_face(web, laying, first, last)
    if ahead is None:
        return None
    found = _with_turn(laying, first, _put_ahead(laying[first], ahead[0], dart))
    return _with_turn(found, last, _put_ahead(laying[last], ahead[1], dart + 1))


def _with_turn(laying, spot, turn):
    """The laying with this turn at the spot."""
    return (*laying[:spot], turn, *laying[spot + 1:])


def _put_ahead(turn, other, dart):
    """The turn with a dart, above all that are there, right ahead of another one; at the end if the other is None."""
    at = 0 if other is None else turn.index(other)
    return (*turn[:at], dart, *turn[at:]) if at else (*turn, dart)


def _darts_at_face(web, laying, first, last):
    """A dart at each of two spots, both of one face; None for both in two pieces; None if no face has both spots."""
    if not [piece for piece in pieces(web) if first in piece and last in piece]:
        return (None, None)
    spots = dart_spots(web)
    for face in rows_of_faces(web, laying):
        line = [spots[dart] for dart in face]
        if first in line and last in line:
            return (face[line.index(first)], face[line.index(last)])
    return None


def sides(web, laying, tie):
    """The pair of the numbers of the faces that have the first and second dart of the tie; NotFlat."""
    _ask_flat(web, laying)
    found = rows_of_faces(web, laying)
    first, last = [[number for number, face in enumerate(found) if dart in face][0] for dart in (2 * tie, 2 * tie + 1)]
    return (first, last)


def at_face(web, laying, spots):
    """The number of the first face at which all these spots stand, None if there is none; NotFlat."""
    _ask_flat(web, laying)
    standing = dart_spots(web)
    asked = mask_of(spots)
    for number, face in enumerate(rows_of_faces(web, laying)):
        if asked & ~mask_of([standing[dart] for dart in face]) == 0:
            return number
    return None
