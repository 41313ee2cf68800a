"""Which spots of a web with a flat laying stand at one face in some flat laying of it.

In a ring or a bundle of a block any two of its spots and members can do so; in a firm part those that do so in its one
flat laying. Spots of a block without a part in common do so if this holds in each part on the way between them.
"""

from flatbonds.flatness import flat_rows
from flatbonds.frames import frames_of, holders_of
from flatbonds.helpers import mask_of, places_of
from flatbonds.turns import rows_of_faces


class Views:
    """The frames of a web, and what has been found of the spots that can be seen from their joins."""

    def __init__(self, frames):
        self.frames = frames
        self.holders = holders_of(frames)
        self.sights = [Sight(frame) for frame in frames]
        self.seen = {}


class Sight:
    """For each spot and each member of a frame the mask of the faces at which it stands."""

    def __init__(self, frame):
        # All stand at one face, so to speak, where any two can.
        self.by_spot = {spot: 1 for ends in frame.ends for spot in ends}
        self.by_join = {member: 1 for member in frame.members if member < 0}
        if frame.kind == "firm":
            self._look(frame)

    def _look(self, frame):
        """Tells the faces of a firm frame from one another."""
        spots = max([high for _, high in frame.ends]) + 1
        rows = flat_rows(spots, frame.ends)
        self.by_spot = {spot: 0 for spot in self.by_spot}
        self.by_join = {join: 0 for join in self.by_join}
        for number, face in enumerate(rows_of_faces((spots, frame.ends), rows)):
            for dart in face:
                spot, member = frame.ends[dart // 2][dart % 2], frame.members[dart // 2]
                self.by_spot[spot] = self.by_spot[spot] | (1 << number)
                if member < 0:
                    self.by_join[member] = self.by_join[member] | (1 << number)


def facing_masks(web):
    """For each spot of a web that can be laid flat the mask of the spots of its piece at one face with it."""
    frames = frames_of(web)
    views = Views(frames)
    masks = [{} for _ in range(web[0])]
    for number, frame in enumerate(frames):
        sight = views.sights[number]
        for spot in sight.by_spot:
            seen = masks[spot].get(frame.block, 0) | _seen_in(views, number, sight.by_spot[spot], spot)
            masks[spot][frame.block] = seen
    return [_across_blocks(masks, spot) for spot in range(web[0])]


def _seen_in(views, number, face_mask, spot):
    """The mask of what can be seen from some faces of the frame with the number.

    It is seen from the spot, beyond whose joins one does not look, as the spot stands there, too; or from none.
    """
    frame, sight = views.frames[number], views.sights[number]
    mask = mask_of([further for further in sight.by_spot if sight.by_spot[further] & face_mask])
    for place, member in enumerate(frame.members):
        if member < 0 and sight.by_join[member] & face_mask and spot not in frame.ends[place]:
            mask = mask | _seen_beyond(views, number, member)
    return mask


def _seen_beyond(views, number, join):
    """The mask of what can be seen through the join from the frame with the number."""
    beyond = sum(views.holders[join]) - number
    if (beyond, join) not in views.seen:
        frame, sight = views.frames[beyond], views.sights[beyond]
        faces_there = sight.by_join[join]
        mask = mask_of([further for further in sight.by_spot if sight.by_spot[further] & faces_there])
        for member in frame.members:
            if member < 0 and member != join and sight.by_join[member] & faces_there:
                mask = mask | _seen_beyond(views, beyond, member)
        views.seen[(beyond, join)] = mask
    return views.seen[(beyond, join)]


def _across_blocks(masks, spot):
    """The mask of what can be seen from the spot, in its blocks, and through cut spots beyond them."""
    mask = 1 << spot
    queue = [(spot, None)]
    while queue:
        at, entered = queue.pop()
        for block in masks[at]:
            if block != entered:
                fresh = masks[at][block] & ~mask
                mask = mask | fresh
                queue.extend([(further, block) for further in places_of(fresh) if len(masks[further]) > 1])
    return mask
