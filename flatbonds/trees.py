"""Partings of blocks, the joins among them, and the tree of parts that these make."""

from flatbonds.blocks import cut_spots, is_block
from flatbonds.errors import NoPart, NotBlock, NotParting
from flatbonds.helpers import flooded, is_integer, mask_of, neighbours, places_of
from flatbonds.parts import parts_of
from flatbonds.webs import spots_of, web_of


def is_parting(web, pick):
    """Whether the pick parts the web; NotBlock if it is no block."""
    _ask_block(web)
    return _parts(web, pick)


def poles(web, pick):
    """The pair of the poles of the pick; NotBlock if the web is no block, NotParting if the pick does not part it."""
    _ask_parting(web, pick)
    return _shared(web, pick)


def _ask_block(web):
    """Raises NotBlock if the web is no block."""
    if not is_block(web):
        raise NotBlock()


def _ask_parting(web, pick):
    """Raises NotBlock if the web is no block, NotParting if the pick does not part it."""
    _ask_block(web)
    if not _parts(web, pick):
        raise NotParting()


def _parts(web, pick):
    """Whether the pick parts the web, which is a block."""
    return 2 <= len(pick) <= len(web[1]) - 2 and len(_shared(web, pick)) == 2


def _shared(web, pick):
    """The ascending tuple of the spots that the pick shares."""
    rest = [tie for tie in range(len(web[1])) if tie not in pick]
    return places_of(mask_of(spots_of(web, pick)) & mask_of(spots_of(web, rest)))


def _strands(web, beside, low, high):
    """The masks of the strands between two spots of a block.

    A strand is all ties that hang together elsewhere than at these two spots. So whatever is parted off at them is
    made of whole strands, and each strand stands at both of them, as no spot alone parts a block.
    """
    others = ((1 << web[0]) - 1) & ~(1 << low) & ~(1 << high)
    found = []
    if beside[low] >> high & 1:
        found = [1 << tie for tie, ends in enumerate(web[1]) if ends == (low, high)]
    while others:
        near = flooded(others & -others, others, beside)
        others = others & ~near
        found.append(mask_of([tie for tie, (a, b) in enumerate(web[1]) if (near >> a | near >> b) & 1]))
    return found


def _is_chain(web, strand, pole):
    """Whether some spot within the strand, which has ties enough, lies on each way through it from the pole."""
    chain = places_of(strand)
    # A single tie at the pole leads to such a spot: this is told at once, as most strands are of this kind.
    if len([tie for tie in chain if pole in web[1][tie]]) == 1:
        return True
    return len(cut_spots(web_of(web, chain))) > 0


def joins(web):
    """The tuple of the joins, each told by its side without the tie 0; NotBlock if the web is no block."""
    _ask_block(web)
    _, sides, _ = parts_of(web)
    return tuple(sides)


def tree(web):
    """The tuple of the parts of the tree, pairs of a kind and members; NotBlock if the web is no block."""
    _ask_block(web)
    parts, _, _ = parts_of(web)
    return tuple([(kind, members) for kind, members, _ in parts])


def part_web(web, number):
    """The web of the part with the number; NotBlock if the web is no block, NoPart if there is no such part."""
    _ask_block(web)
    parts, _, _ = parts_of(web)
    if not 0 <= number < len(parts):
        raise NoPart(number)
    _, members, ends = parts[number]
    return web_of((web[0], ends), tuple(range(len(members))))


def is_firm(web):
    """Whether the web is a block with four spots at least and no parting."""
    if web[0] < 4 or not is_block(web):
        return False
    parts, _, _ = parts_of(web)
    return len(parts) == 1 and parts[0][0] == "firm"


def tree_holds(web, value):
    """Whether value is the tree; NotBlock if the web is no block."""
    return _is_same(value, tree(web))


def _is_same(value, known):
    """Whether value is the known one, which is made of tuples, strings and integers, also in its kinds."""
    if isinstance(known, tuple):
        if not isinstance(value, tuple) or len(value) != len(known):
            return False
        return all([_is_same(item, known[at]) for at, item in enumerate(value)])
    # True and False equal 1 and 0, though they are no integers.
    return value == known and (isinstance(known, str) or is_integer(value))


def crossing(web, pick):
    """A pick whose parting crosses that of the pick, None if there is none.

    NotBlock if the web is no block, NotParting if the pick does not part it.
    """
    _ask_parting(web, pick)
    low, high = _shared(web, pick)
    strands = _strands(web, neighbours(web), low, high)
    side = mask_of(pick)
    ours = [strand for strand in strands if strand & side]
    others = [strand for strand in strands if not strand & side]
    if len(ours) > 1 and len(others) > 1:
        return places_of(ours[0] | others[0])
    if len(strands) > 2 or not _is_chain(web, ours[0], low) or not _is_chain(web, others[0], low):
        return None
    return places_of(_begun_chain(web, ours[0], low) | _begun_chain(web, others[0], low))


def _begun_chain(web, strand, pole):
    """The mask of the ties of the chain on the side of the pole from a spot that lies on each way through it."""
    chain = places_of(strand)
    kept = spots_of(web, chain)
    middle = kept[cut_spots(web_of(web, chain))[0]]
    beside = neighbours((web[0], tuple([web[1][tie] for tie in chain])))
    near = flooded(1 << pole, mask_of(kept) & ~(1 << middle), beside)
    return mask_of([tie for tie in chain if mask_of(web[1][tie]) & near])


def meeting(web, tie, last):
    """The row of the numbers of the parts on the way from the part with the tie to the part with the tie last.

    NotBlock if the web is no block.
    """
    _ask_block(web)
    parts, _, above = parts_of(web)
    start = _up([number for number, part in enumerate(parts) if tie in part[1]][0], above)
    end = _up([number for number, part in enumerate(parts) if last in part[1]][0], above)
    middle = [number for number in start if number in end][0]
    return tuple(start[:start.index(middle)] + end[:end.index(middle) + 1][::-1])


def _up(number, above):
    """The row of the numbers of the parts from this one to the part 0."""
    row = [number]
    while row[-1] > 0:
        row.append(above[row[-1] - 1])
    return row
