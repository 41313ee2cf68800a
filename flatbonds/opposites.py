"""Opposite webs, of which the one has the rings that are the bonds of the other one, and flat bases of rings."""

from flatbonds.blocks import blocks, is_block
from flatbonds.errors import NotBasis, NotBlock, NotFlat, NotOpposite, NotWhole, Unfit
from flatbonds.flatness import flat_rows
from flatbonds.layings import is_flat
from flatbonds.rings import codes_of_spots, first_forest, forest_rings, is_even
from flatbonds.turns import dart_spots, darts_by_spot, rows_of_faces
from flatbonds.webs import is_pick, pieces, web_of


def opposite(web, laying):
    """The web whose spots are the faces of the flat laying, each tie between the faces of its darts.

    NotWhole if the web has more than one piece, then NotFlat.
    """
    if len(pieces(web)) > 1:
        raise NotWhole()
    if not is_flat(web, laying):
        raise NotFlat()
    found = rows_of_faces(web, laying)
    at = {dart: number for number, face in enumerate(found) for dart in face}
    ends = [(at[2 * tie], at[2 * tie + 1]) for tie in range(len(web[1]))]
    # A spot without darts has a face, too.
    return (max(1, len(found)), tuple([(min(pair), max(pair)) for pair in ends]))


def is_opposite(web, other):
    """Whether the rings of the web are just the bonds of the other one; Unfit if they have not as many ties."""
    many = len(web[1])
    if len(other[1]) != many:
        raise Unfit()
    # As many cuts of the other web as the web has even picks: so it is enough that these are cuts there.
    if len(first_forest(web)) + len(first_forest(other)) != many:
        return False
    codes = [0] * many
    for place, ring in enumerate(forest_rings(web)):
        for tie in ring:
            codes[tie] = codes[tie] | (1 << place)
    return codes_of_spots(other, codes) is not None


def flat_basis(web):
    """Any flat basis of the web, all of whose picks are rings; None if there is none."""
    found = []
    for block in blocks(web):
        part = web_of(web, block)
        rows = flat_rows(part[0], part[1])
        if rows is None:
            return None
        # Each face of a block is round a ring, and the last one is the sum of the others.
        for face in rows_of_faces(part, rows)[:-1]:
            found.append(tuple(sorted([block[dart // 2] for dart in face])))
    return tuple(found)


def basis_holds(web, value):
    """Whether value is a flat basis of the web."""
    return _web_of_basis(web, value) is not None


def by_basis(web, picks):
    """The web with a spot for each pick of the flat basis, and one behind for all else; NotBasis if it is none."""
    found = _web_of_basis(web, picks)
    if found is None:
        raise NotBasis()
    return found


def _web_of_basis(web, value):
    """The web that is made by the flat basis, None if value is none of the web."""
    many = len(web[1])
    if not isinstance(value, tuple) or len(value) != many - len(first_forest(web)):
        return None
    rows = [[] for _ in range(many)]
    for spot, pick in enumerate(value):
        if not is_pick(web, pick) or not is_even(web, pick):
            return None
        for tie in pick:
            rows[tie].append(spot)
    if [row for row in rows if len(row) > 2]:
        return None
    last = len(value)
    found = (last + 1, tuple([tuple([*row, last, last][:2]) for row in rows]))
    # The sum of some picks is () just if no tie leads from them to other spots: so no pick is the sum of others.
    return found if len(pieces(found)) == 1 else None


def by_opposite(web, other):
    """Any flat laying of the web whose faces have the ties at the spots of the other web, one face for each spot.

    Unfit if they have not as many ties, NotBlock if one of them is no block, NotOpposite if they are not opposite.
    """
    if len(web[1]) != len(other[1]):
        raise Unfit()
    if not is_block(web) or not is_block(other):
        raise NotBlock()
    if not is_opposite(web, other):
        raise NotOpposite()
    return _turns_by(web, _faces_by(web, other))


def _faces_by(web, other):
    """The faces of a flat laying of the web, as rows of darts, each with the ties at a spot of the other web.

    Of each tie one dart is in the face at the one end that the tie has in the other web, and its mate in that at the
    other end: so it is told by the first face which way all others go round.
    """
    spots = dart_spots(web)
    stars = [[dart // 2 for dart in darts] for darts in darts_by_spot(other)]
    found = {}
    first = [number for number, star in enumerate(stars) if 0 in star][0]
    begun = [(first, 0)]
    while begun:
        number, dart = begun.pop()
        if number not in found:
            found[number] = _face_from(spots, stars[number], dart)
            begun.extend([(sum(other[1][each // 2]) - number, each ^ 1) for each in found[number]])
    return list(found.values())


def _face_from(spots, ties, dart):
    """The darts along the ring that the ties make, from this dart on; a tie told twice is gone there and back."""
    rows = {}
    for tie in ties:
        for each in (2 * tie, 2 * tie + 1):
            rows.setdefault(spots[each], []).append(each)
    face = [dart]
    while True:
        mate = face[-1] ^ 1
        further = sum(rows[spots[mate]]) - mate
        if further == dart:
            return face
        face.append(further)


def _turns_by(web, found):
    """The laying of the web that has these faces."""
    after = {}
    for face in found:
        for at, dart in enumerate(face):
            after[face[at - 1] ^ 1] = dart
    laying = []
    for darts in darts_by_spot(web):
        turn = [darts[0]]
        while after[turn[-1]] != darts[0]:
            turn.append(after[turn[-1]])
        laying.append(tuple(turn))
    return tuple(laying)
