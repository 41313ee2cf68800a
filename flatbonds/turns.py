"""Turns, the darts in them, and the faces round which one comes along them."""


def turn_of(row):
    """The turn that goes round like the row of darts: the least dart stands first."""
    if not row:
        return ()
    at = row.index(min(row))
    return tuple(row[at:]) + tuple(row[:at])


def turned_over(turn):
    """The turn that goes round the other way."""
    return turn[:1] + turn[:0:-1]


def dart_spots(web):
    """For each dart the spot at which it stands."""
    return [spot for ends in web[1] for spot in ends]


def darts_by_spot(web):
    """For each spot the ascending list of the darts that stand at it."""
    rows = [[] for _ in range(web[0])]
    for dart, spot in enumerate(dart_spots(web)):
        rows[spot].append(dart)
    return rows


def next_darts(web, laying):
    """For each dart the one that comes behind it in its turn."""
    after = [None] * (2 * len(web[1]))
    for turn in laying:
        for at, dart in enumerate(turn):
            after[turn[at - 1]] = dart
    return after


def rows_of_faces(web, laying):
    """The faces of the laying, in order, as lists of darts."""
    after = next_darts(web, laying)
    seen = [False] * len(after)
    found = []
    for first in range(len(after)):
        if seen[first]:
            continue
        face = []
        dart = first
        while not seen[dart]:
            seen[dart] = True
            face.append(dart)
            dart = after[dart ^ 1]
        found.append(face)
    return found
