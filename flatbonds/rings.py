"""Even picks and cuts, rings and bonds, and the sums of picks."""

from flatbonds.blocks import blocks
from flatbonds.circling import ring_masks
from flatbonds.cutting import bond_masks
from flatbonds.errors import InForest, Neither, NotInForest
from flatbonds.helpers import exits, first_way, flooded, mask_of, neighbours, places_of, reached
from flatbonds.listing import ask_few
from flatbonds.webs import pieces, spots_of, taken_out, web_of


def is_even(web, pick):
    """Whether at each spot an even number of darts of the pick stands."""
    odd = 0
    for tie in pick:
        a, b = web[1][tie]
        odd = odd ^ (1 << a) ^ (1 << b)
    return odd == 0


def is_cut(web, pick):
    """Whether the pick has just the ties of which one end is in some set of spots and the other one is not."""
    return _side_of_cut(web, pick) is not None


def is_ring(web, pick):
    """Whether the pick is a ring."""
    part = web_of(web, pick)
    # An even pick has two darts at each spot at least: as many ties as spots leave no spot with more.
    return is_even(web, pick) and len(pick) == part[0] and len(pieces(part)) == 1


def is_bond(web, pick):
    """Whether the pick is a bond."""
    # A cut is made of bonds without common ties, each of which parts one more piece off.
    return is_cut(web, pick) and len(pieces(taken_out(web, pick))) == len(pieces(web)) + 1


def _side_of_cut(web, pick):
    """The mask of a set of spots whose cut the pick is, None if it is no cut."""
    crossed = mask_of(pick)
    codes = codes_of_spots(web, [crossed >> tie & 1 for tie in range(len(web[1]))])
    return None if codes is None else mask_of([spot for spot, code in enumerate(codes) if code])


def codes_of_spots(web, codes):
    """For each spot an integer, such that those of the ends of each tie, by ^, make its code; None if there are none.

    The codes are masks, one for each tie. So several picks, one for each bit, are looked at together: there are such
    integers just if each pick is a cut, and the bits of the pick tell the spots of the one side then.
    """
    spots, ties = web
    rows = exits(web, list(range(len(ties))))
    found = [None] * spots
    for root in range(spots):
        if found[root] is None:
            back = reached(rows, root)
            for spot in back:
                found[spot] = 0 if back[spot] is None else found[back[spot][1]] ^ codes[back[spot][0]]
    for tie, (a, b) in enumerate(ties):
        if found[a] ^ found[b] != codes[tie]:
            return None
    return found


def forest_rings(web):
    """The rings with just one tie that is not in the first forest, in the order of these ties."""
    forest = first_forest(web)
    inside = mask_of(forest)
    # The ways to the spots from one of their piece, along the forest.
    ways = codes_of_spots((web[0], tuple([web[1][tie] for tie in forest])), [1 << tie for tie in forest])
    others = [tie for tie in range(len(web[1])) if not inside >> tie & 1]
    return [places_of(ways[web[1][tie][0]] ^ ways[web[1][tie][1]] | (1 << tie)) for tie in others]


def rings(web):
    """The ascending tuple of all rings; TooMany if there are more than MAX_LISTED."""
    found = []
    for block in blocks(web):
        if len(spots_of(web, block)) > 1:
            found.extend(ring_masks(web, block))
        else:
            found.append(mask_of(block))
        ask_few(len(found))
    return tuple(sorted([places_of(mask) for mask in found]))


def bonds(web):
    """The ascending tuple of all bonds; TooMany if there are more than MAX_LISTED."""
    found = []
    for block in blocks(web):
        if len(spots_of(web, block)) > 1:
            found.extend(bond_masks(web, block))
            ask_few(len(found))
    return tuple(sorted([places_of(mask) for mask in found]))


def _ties_between(web, inner):
    """The ties of which one end is in the mask inner and the other one is not."""
    return tuple([tie for tie, (a, b) in enumerate(web[1]) if (inner >> a ^ inner >> b) & 1])


def sum_of(picks):
    """The ties that are in an odd number of the picks."""
    mask = 0
    for pick in picks:
        mask = mask ^ mask_of(pick)
    return places_of(mask)


def first_forest(web):
    """The ties that are the greatest one of no ring."""
    group = list(range(web[0]))
    kept = []
    for tie, (a, b) in enumerate(web[1]):
        if group[a] != group[b]:
            kept.append(tie)
            gone, stays = group[b], group[a]
            group = [stays if name == gone else name for name in group]
    return tuple(kept)


def ring_with(web, tie):
    """The ring of this tie and ties of the first forest; InForest if the tie is in it."""
    forest = first_forest(web)
    if tie in forest:
        raise InForest(tie)
    first, last = web[1][tie]
    return tuple(sorted([*first_way(exits(web, forest), first, 1 << last), tie]))


def bond_with(web, tie):
    """The bond with this tie and no other one of the first forest; NotInForest if the tie is not in it."""
    forest = first_forest(web)
    if tie not in forest:
        raise NotInForest(tie)
    beside = neighbours((web[0], tuple([web[1][other] for other in forest if other != tie])))
    return _ties_between(web, flooded(1 << web[1][tie][0], (1 << web[0]) - 1, beside))


def summands(picks, pick):
    """An ascending tuple of places in picks, the sum of whose picks is the pick, None if there is none."""
    basis = {}
    for place, summand in enumerate(picks):
        mask, chosen = _reduced(mask_of(summand), 1 << place, basis)
        if mask:
            basis[mask.bit_length()] = (mask, chosen)
    mask, chosen = _reduced(mask_of(pick), 0, basis)
    return None if mask else places_of(chosen)


def _reduced(mask, chosen, basis):
    """What is left of the mask and what is chosen, when masks of the basis are added to take its top bits away."""
    while mask.bit_length() in basis:
        top, also = basis[mask.bit_length()]
        mask = mask ^ top
        chosen = chosen ^ also
    return (mask, chosen)


def parted(web, pick):
    """Rings without common ties whose sum is the pick, or else such bonds; Neither if there are none."""
    if is_even(web, pick):
        return _parted_in_rings(web, pick)
    side = _side_of_cut(web, pick)
    if side is None:
        raise Neither()
    return _parted_in_bonds(web, side)


def _parted_in_rings(web, pick):
    """Rings without common ties whose sum is the even pick."""
    found = []
    left = pick
    while left:
        first, last = web[1][left[0]]
        ring = (left[0], *first_way(exits(web, left[1:]), first, 1 << last))
        found.append(tuple(sorted(ring)))
        left = tuple([tie for tie in left if tie not in ring])
    return tuple(found)


def _parted_in_bonds(web, side):
    """Bonds without common ties whose sum is the cut of the mask side."""
    beside = neighbours(web)
    everywhere = (1 << web[0]) - 1
    found = []
    while side:
        near = flooded(side & -side, side, beside)
        side = side & ~near
        rest = everywhere & ~near
        while rest:
            far = flooded(rest & -rest, rest, beside)
            rest = rest & ~far
            found.append(_ties_between(web, far))
    # What lies in another piece than near has no tie to it.
    return tuple([bond for bond in found if bond])
