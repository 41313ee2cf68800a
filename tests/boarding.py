"""What edits of boards must do, by words, and edits that are drawn at random: for the tests of boards and shells."""

from flatbonds import errors
from flatbonds.layings import is_flat, lay, laying_error, put_in, thinned
from flatbonds.twists import changed

WORDS = {"spot": 0, "tie": 2, "cut": 1, "draw": 1, "change": 1}


def is_number(value, limit):
    return type(value) is int and 0 <= value < limit


def edited(web, word, *worths):
    """The web behind the edit, or the error that it raises, as a pair of a name and what the error keeps."""
    spots, ties = web
    if word == "spot":
        return ("TooMany", {"limit": 14}) if spots == 14 else (spots + 1, ties)
    if word == "tie":
        for end in worths:
            if not is_number(end, spots):
                return ("NoSpot", {"spot": end})
        return ("TooMany", {"limit": 28}) if len(ties) == 28 else (spots, (*ties, tuple(sorted(worths))))
    if word == "change":
        try:
            found = changed(web, worths[0])
        except errors.BadChange:
            return ("BadChange", {})
        return ("TooMany", {"limit": 14}) if found[0] > 14 else found
    index = worths[0]
    if not is_number(index, len(ties)):
        return ("NoTie", {"index": index})
    others = [ends for tie, ends in enumerate(ties) if tie != index]
    low, high = ties[index]
    if word == "cut" or low == high:
        return (spots, tuple(others))
    names = [low if at == high else at - (at > high) for at in range(spots)]
    return (spots - 1, tuple(tuple(sorted((names[a], names[b]))) for a, b in others))


def is_error(found):
    return isinstance(found[0], str)


def batched(web, edits):
    """The web behind the batch, or the error that it raises."""
    if type(edits) is not tuple or len(edits) > 12:
        return ("BadBatch", {})
    for edit in edits:
        if type(edit) is not tuple or not edit or type(edit[0]) is not str or len(edit) - 1 != WORDS.get(edit[0]):
            return ("BadBatch", {})
    for index, edit in enumerate(edits):
        web = edited(web, *edit)
        if is_error(web):
            return ("Rejected", {"index": index})
    return web


def outcome(call, *worths, **named):
    """What the call returns, or the error of the package that it raises, as edited tells it."""
    try:
        return call(*worths, **named)
    except errors.WebError as error:
        return (type(error).__name__, vars(error))


def drawn_change(rng, web):
    """A change of the web that can be done, if one is found; otherwise perhaps none."""
    spots, ties = web
    picks = [tuple(tie for tie in range(len(ties)) if rng.random() < 0.4) for _ in range(4)]
    changes = [(word, pick) for word in ("twist", "split") for pick in picks]
    low, high = rng.randrange(spots), rng.randrange(spots)
    changes.append(("glue", min(low, high), max(low, high)))
    has = {spot for ends in ties for spot in ends}
    kept = [spot for spot in range(spots) if spot in has or rng.random() < 0.5] or [0]
    names = dict(zip(kept, rng.sample(range(len(kept)), len(kept))))
    changes.append(("names", tuple(names.get(spot) for spot in range(spots))))
    rng.shuffle(changes)
    for change in changes:
        if outcome(changed, web, change) != ("BadChange", {}):
            return change
    return changes[0]


def drawn_edit(rng, web, faulty=0.1):
    """An edit that suits the web, or now and then one that does not."""
    spots, ties = web
    word = rng.choice(["spot", "tie", "tie", "tie", "tie", "cut", "draw", "change"])
    if rng.random() < faulty:
        odd = [rng.choice([None, True, -1, 10 ** 399, "0", (0,), [1], spots, len(ties), {}, ()]) for _ in range(2)]
        return (word, *odd[:WORDS[word]])
    if word == "tie":
        return (word, rng.randrange(spots), rng.randrange(spots))
    if word in ("cut", "draw"):
        return (word, rng.randrange(len(ties) + 1) if rng.random() < 0.05 or not ties else rng.randrange(len(ties)))
    return (word, drawn_change(rng, web)) if word == "change" else (word,)


def is_laying_of(web, laying):
    """Whether this is a flat laying of the web, or None for a web without one."""
    if lay(web) is None:
        return laying is None
    return laying is not None and laying_error(web, laying) is None and is_flat(web, laying)


def is_laying_behind(edit, web, laying, further, found):
    """Whether found is what the document tells of the laying behind the edit, which leads from the web to further."""
    if not is_laying_of(further, found):
        return False
    if laying is None:
        return True
    if edit[0] == "spot":
        return found == (*laying, ())
    if edit[0] == "cut":
        return found == thinned(web, laying, (edit[1],))
    if edit[0] == "tie" and put_in(web, laying, tuple(sorted(edit[1:]))) is not None:
        return thinned(further, found, (len(web[1]),)) == laying
    return True


def board_state(board):
    """All that can be seen of a board, but for what redo tells."""
    return (type(board).__name__, board.web, board.laying, board.version, board.news(), len(board), str(board),
            tuple(board), board.count(), board.paper(), board.blocks(),
            tuple(board.at(version) for version in range(board.version + 1)))


def full_state(board):
    """All that can be seen of a board, with what can be done again."""
    rows = [board_state(board)]
    further = board.copy()
    while not isinstance(outcome(further.redo), tuple):
        rows.append(board_state(further))
    rows.append("back")
    further = board.copy()
    while further.version:
        further.undo()
        rows.append((further.web, further.laying, further.version))
    return rows
