"""What the document says, done word by word and slowly, to look at the answers for small webs."""

from itertools import combinations, permutations, product
from math import factorial, prod


def all_picks(web):
    every = range(len(web[1]))
    return [pick for many in range(len(web[1]) + 1) for pick in combinations(every, many)]


def is_even(web, pick):
    counts = [0] * web[0]
    for tie in pick:
        for spot in web[1][tie]:
            counts[spot] += 1
    return all(count % 2 == 0 for count in counts)


def all_cuts(web):
    found = set()
    for code in range(2 ** web[0]):
        inside = [code >> spot & 1 for spot in range(web[0])]
        found.add(tuple(tie for tie, (a, b) in enumerate(web[1]) if inside[a] != inside[b]))
    return found


def least_ones(picks):
    """The picks, none of them (), within which there is no other one but ()."""
    sets = [frozenset(pick) for pick in picks if pick]
    return tuple(sorted(tuple(sorted(one)) for one in sets if not any(other < one for other in sets)))


def evens(web):
    return [pick for pick in all_picks(web) if is_even(web, pick)]


def rings(web):
    return least_ones(evens(web))


def bonds(web):
    return least_ones(all_cuts(web))


def bonds_by_sides(web):
    """The bonds of a web with a few spots and any number of ties: both sides of a piece hang together."""
    found = set()
    for piece in pieces(web):
        for code in range(2 ** (len(piece) - 1) - 1):
            side = {piece[0]} | {spot for at, spot in enumerate(piece[1:]) if code >> at & 1}
            if hang_together(web, side) and hang_together(web, set(piece) - side):
                found.add(tuple(tie for tie, (a, b) in enumerate(web[1]) if (a in side) != (b in side)))
    return tuple(sorted(found))


def rings_by_roads(web):
    """The rings of a web that has not too many: each one from its first tie."""
    found = set()
    for tie, (a, b) in enumerate(web[1]):
        if a == b:
            found.add((tie,))
        else:
            further = (web[0], tuple(ends if other > tie else (a, a) for other, ends in enumerate(web[1])))
            found.update(tuple(sorted((tie, *ties))) for ties, _ in roads(further, a, b))
    return tuple(sorted(found))


def hang_together(web, spots):
    """Whether these spots are in one piece by ties between them alone."""
    inside = (web[0], tuple(ends for ends in web[1] if set(ends) <= spots))
    return len(pieces(inside)) == web[0] - len(spots) + 1


def pieces(web):
    name = list(range(web[0]))
    for a, b in web[1]:
        old, new = max(name[a], name[b]), min(name[a], name[b])
        name = [new if each == old else each for each in name]
    return tuple(sorted(tuple(spot for spot in range(web[0]) if name[spot] == head) for head in set(name)))


def blocks(web):
    """Two ties are in one block if a ring has both; the document says that this parts the ties."""
    known = rings(web)
    return tuple(sorted({
        tuple(sorted({tie} | {other for ring in known if tie in ring for other in ring})) for tie in range(len(web[1]))
    }))


def spots_of(web, pick):
    return {spot for tie in pick for spot in web[1][tie]}


def is_block(web):
    return len(blocks(web)) == 1 and spots_of(web, range(len(web[1]))) == set(range(web[0]))


def roads(web, spot, last):
    """All roads from spot to last, as pairs of their ties and the spots between."""
    found = []
    begun = [(spot, (), (spot,))]
    while begun:
        at, ties, been = begun.pop()
        if at == last:
            found.append((ties, been[1:-1]))
            continue
        for tie, (a, b) in enumerate(web[1]):
            if at in (a, b):
                further = b if at == a else a
                if further not in been:
                    begun.append((further, (*ties, tie), (*been, further)))
    return found


def most_apart(known):
    """How many of these roads are apart, at most."""
    if not known:
        return 0
    ties, spots = known[0]
    others = known[1:]
    apart = [road for road in others if not set(road[0]) & set(ties) and not set(road[1]) & set(spots)]
    return max(1 + most_apart(apart), most_apart(others))


def is_stop(known, spots, ties):
    return all(set(spots) & set(road[1]) or set(ties) & set(road[0]) for road in known)


def fewest_things(web, spot, last):
    known = roads(web, spot, last)
    things = [("spot", at) for at in range(web[0]) if at not in (spot, last)]
    things += [("tie", tie) for tie, ends in enumerate(web[1]) if set(ends) == {spot, last}]
    for many in range(len(things) + 1):
        for some in combinations(things, many):
            spots = [at for word, at in some if word == "spot"]
            if is_stop(known, spots, [tie for word, tie in some if word == "tie"]):
                return many
    return None


def all_ears(web, tie):
    """Some ears that begin with the tie, tried in all ways; None if there are none."""
    many = len(web[1])
    if many == 1:
        return ((tie,),)
    first, last = web[1][tie]
    if first == last:
        return None
    for ties, between in roads(web, last, first):
        if tie not in ties:
            found = _more_ears(web, [(tie, *ties)], {first, last, *between})
            if found is not None:
                return found
    return None


def _more_ears(web, ears, spots):
    used = {tie for ear in ears for tie in ear}
    if len(used) == len(web[1]):
        return tuple(ears)
    for a, b in combinations(sorted(spots), 2):
        for ties, between in roads(web, a, b):
            if not used & set(ties) and not spots & set(between):
                # Ears put on stay possible: what can be put on later can be put on behind this one, too.
                return _more_ears(web, ears + [ties], spots | set(between))
    return None


def rises(web, tie, row):
    spots, ties = web
    if sorted(row) != list(range(spots)) or (row[0], row[-1]) != ties[tie]:
        return False
    for place, spot in enumerate(row):
        if 0 < place < spots - 1:
            others = [b if spot == a else a for a, b in ties if spot in (a, b) and a != b]
            places = [row.index(other) for other in others]
            if not any(other < place for other in places) or not any(other > place for other in places):
                return False
    return True


def shared(web, pick):
    rest = [tie for tie in range(len(web[1])) if tie not in pick]
    return tuple(sorted(spots_of(web, pick) & spots_of(web, rest)))


def is_parting(web, pick):
    return len(pick) >= 2 and len(web[1]) - len(pick) >= 2 and len(shared(web, pick)) == 2


def partings(web):
    """All picks without the tie 0 that part the web."""
    return [pick for pick in all_picks(web) if 0 not in pick and is_parting(web, pick)]


def do_cross(web, pick, other):
    every = set(range(len(web[1])))
    sides = [set(pick), every - set(pick)]
    others = [set(other), every - set(other)]
    return all(side & further for side in sides for further in others)


def joins(web):
    known = partings(web)
    return tuple(sorted(pick for pick in known if not any(do_cross(web, pick, other) for other in known)))


def groups(web, ties, spots):
    """The sets of those ties that hang together elsewhere than at these spots."""
    name = {tie: tie for tie in ties}
    for spot in range(web[0]):
        here = [name[tie] for tie in ties if spot in web[1][tie]]
        if here and spot not in spots:
            name = {tie: min(here) if head in here else head for tie, head in name.items()}
    return [{tie for tie in ties if name[tie] == head} for head in sorted(set(name.values()))]


def is_chain(web, ties, poles):
    """Whether ties that hang together elsewhere than at the poles do not do so without some other spot."""
    return any(len(groups(web, ties, [spot])) > 1 for spot in spots_of(web, ties) - set(poles))


def is_firm_block(web):
    """Whether a block, of any size, is firm."""
    every = range(len(web[1]))
    for low in range(web[0]):
        for high in range(low + 1, web[0]):
            rows = groups(web, every, [low, high])
            if len(rows) > 2 and len(every) > 3 or len(rows) == 2 and min(len(row) for row in rows) > 1:
                return False
    return web[0] > 3


def joins_by_strands(web):
    """The joins of a block of any size, by what hangs together at each two spots.

    Of three strands or more each one with two ties is the side of a join. Two strands with two ties at least each are
    those of a join just if not both are chains: what crosses it parts both of them.
    """
    every = set(range(len(web[1])))
    found = set()
    for low in range(web[0]):
        for high in range(low + 1, web[0]):
            rows = groups(web, every, [low, high])
            sides = [row for row in rows if 2 <= len(row) <= len(every) - 2]
            if len(rows) == 2 and len(sides) == 2:
                sides = [] if all(is_chain(web, row, [low, high]) for row in rows) else sides[:1]
            elif len(rows) < 3:
                sides = []
            found.update(tuple(sorted(every - side if 0 in side else side)) for side in sides)
    return tuple(sorted(found))


def tree(web, known=None):
    """The tree, by the words of the document, from the joins as partings tell them, if they are not known."""
    sides = [set(side) for side in (joins(web) if known is None else known)]
    parts = []
    for number in range(len(sides) + 1):
        side = set(range(len(web[1]))) if number == 0 else sides[number - 1]
        inside = [join for join, other in enumerate(sides) if other <= side and (number == 0 or other < side)]
        members = [tie for tie in side if not any(tie in sides[join] for join in inside)]
        members += [-1 - join for join in inside
                    if not any(sides[join] < sides[other] for other in inside)]
        members += [-number] if number else []
        members = tuple(sorted(members))
        parts.append((kind(web, sides, members), members))
    return tuple(parts)


def kind(web, sides, members):
    ends = [web[1][member] if member >= 0 else shared(web, sides[-1 - member]) for member in members]
    names = sorted({spot for pair in ends for spot in pair})
    part = (len(names), tuple((names.index(a), names.index(b)) for a, b in ends))
    if len(members) == 1:
        return "line"
    if len(ends) == len(names) and pieces(part) == (tuple(range(len(names))),) and is_even(part, range(len(ends))):
        return "ring"
    return "bundle" if len(names) == 2 and len(members) >= 3 else "firm"


def darts_at(web, spot):
    return [2 * tie + which for tie, ends in enumerate(web[1]) for which in (0, 1) if ends[which] == spot]


def count_of_turns(web):
    """How many layings the web has, flat or not."""
    return prod(factorial(max(0, len(darts_at(web, spot)) - 1)) for spot in range(web[0]))


def all_turns(web):
    """All layings of the web, flat or not."""
    rows = []
    for spot in range(web[0]):
        darts = darts_at(web, spot)
        rows.append([(darts[0], *order) for order in permutations(darts[1:])] if darts else [()])
    return product(*rows)


def faces(web, laying):
    """The faces by the words of the document."""
    behind = {}
    for turn in laying:
        for at, dart in enumerate(turn):
            behind[dart] = turn[(at + 1) % len(turn)]
    found = set()
    for first in behind:
        face = [first]
        while behind[face[-1] ^ 1] != first:
            face.append(behind[face[-1] ^ 1])
        at = face.index(min(face))
        found.add(tuple(face[at:] + face[:at]))
    return tuple(sorted(found))


def is_flat(web, laying):
    bare = sum(1 for turn in laying if turn == ())
    return web[0] - len(web[1]) + len(faces(web, laying)) + bare == 2 * len(pieces(web))


def all_layings(web):
    return tuple(sorted(laying for laying in all_turns(web) if is_flat(web, laying)))


def how_many(web):
    """The product of [A2] (a), of what blocks and the trees of these tell here; of small webs that can be laid flat."""
    count = 1
    darts = [[] for _ in range(web[0])]
    for block in blocks(web):
        kept = sorted(spots_of(web, block))
        part = (len(kept), tuple((kept.index(web[1][tie][0]), kept.index(web[1][tie][1])) for tie in block))
        for kind, members in tree(part):
            count *= {"firm": 2, "bundle": factorial(len(members) - 1)}.get(kind, 1)
        for spot in kept:
            darts[spot].append(sum(web[1][tie].count(spot) for tie in block))
    for row in darts:
        if row:
            count = count * prod(row) * factorial(sum(row) - 1) // factorial(sum(row) - len(row) + 1)
    return count


def without(web, pick):
    return (web[0], tuple(ends for tie, ends in enumerate(web[1]) if tie not in pick))


def bare(web, is_flat_web):
    """The pick that is left, for a test whether webs can be laid flat."""
    if is_flat_web(web):
        return None
    gone = set()
    for tie in reversed(range(len(web[1]))):
        if not is_flat_web(without(web, gone | {tie})):
            gone.add(tie)
    return tuple(tie for tie in range(len(web[1])) if tie not in gone)


def fewest_out(web, is_flat_web, most):
    for many in range(most + 1):
        for pick in combinations(range(len(web[1])), many):
            if is_flat_web(without(web, pick)):
                return pick
    return None


def has_minor(web, goals):
    """Whether one of the goals, frozensets of pairs, comes out of the web by taking out and drawing in ties."""
    known = {}

    def named(ends):
        names = {spot: name for name, spot in enumerate(sorted({spot for pair in ends for spot in pair}))}
        return frozenset(tuple(sorted((names[a], names[b]))) for a, b in ends)

    def search(ends):
        ends = named(ends)
        if ends not in known:
            known[ends] = any(len(goal) <= len(ends) and holds(ends, goal) for goal in goals) or any(
                search({(low if a == high else a, low if b == high else b) for a, b in ends
                        if {a, b} != {low, high}}) for low, high in ends)
        return known[ends]

    def holds(ends, goal):
        spots = sorted({spot for pair in ends for spot in pair})
        wanted = len({spot for pair in goal for spot in pair})
        return len(spots) >= wanted and any(
            all((min(order[a], order[b]), max(order[a], order[b])) in ends for a, b in goal)
            for order in permutations(spots, wanted))

    return search({(a, b) for a, b in web[1] if a != b})


FIVE = frozenset(combinations(range(5), 2))
SIX = frozenset((a, b) for a in range(3) for b in range(3, 6))
FOUR = frozenset(combinations(range(4), 2))
TWO = frozenset((a, b) for a in range(2) for b in range(2, 5))


def paths_between(web, first, last):
    """All paths from the one spot to the other one, pairs of ties and the spots between."""
    return roads(web, first, last)


def is_loose(web, laying, pick):
    rest = [tie for tie in range(len(web[1])) if tie not in pick]
    common = spots_of(web, pick) & spots_of(web, rest)
    if not pick or not rest or len(common) > 2:
        return False
    return all(in_one_run(laying[spot], pick) for spot in common)


def in_one_run(turn, pick):
    """Whether the darts of the pick come one behind another, but not all around."""
    inside = [dart // 2 in pick for dart in turn]
    if all(inside):
        return False
    while not (inside[0] and not inside[-1]):
        inside = inside[1:] + inside[:1]
    return sorted(inside, reverse=True) == inside


def least_first(turn):
    at = turn.index(min(turn))
    return tuple(turn[at:]) + tuple(turn[:at])


def led(web, laying, move):
    """Where a move that can be done leads, by the words of the document."""
    if move[0] == "over":
        return tuple(least_first(turn[::-1]) if turn else () for turn in laying)
    pick = move[1]
    rest = [tie for tie in range(len(web[1])) if tie not in pick]
    common = spots_of(web, pick) & spots_of(web, rest)
    turns = list(laying)
    for spot in spots_of(web, pick):
        turn = list(laying[spot])
        while spot in common and not (turn[0] // 2 in pick and turn[-1] // 2 not in pick):
            turn = turn[1:] + turn[:1]
        run = [dart for dart in turn if dart // 2 in pick]
        others = turn[len(run):]
        if move[0] == "flip":
            turns[spot] = least_first(run[::-1] + others)
        elif spot in common:
            at = others.index(move[2]) + 1
            turns[spot] = least_first(others[:at] + run + others[at:])
    return tuple(turns)


def all_moves(web, laying):
    """All moves that can be done."""
    found = [("over",)]
    for pick in all_picks(web):
        if is_loose(web, laying, pick):
            found.append(("flip", pick))
            rest = [tie for tie in range(len(web[1])) if tie not in pick]
            common = spots_of(web, pick) & spots_of(web, rest)
            if len(common) == 1:
                found.extend(("hop", pick, dart) for dart in laying[min(common)] if dart // 2 not in pick)
    return found


def fewest_moves(web, laying, last):
    """How many moves lead from the one laying to the other one at least."""
    far = {laying: 0}
    queue = [laying]
    for at in queue:
        if at == last:
            return far[at]
        for move in all_moves(web, at):
            further = led(web, at, move)
            if further not in far:
                far[further] = far[at] + 1
                queue.append(further)
    return None


def is_opposite(web, other):
    return len(web[1]) == len(other[1]) and rings(web) == bonds(other)


def is_flat_basis(web, value):
    """Whether the picks of a tuple are a flat basis, by all choices of places."""
    if any(sum(tie in pick for pick in value) > 2 for tie in range(len(web[1]))):
        return False
    sums = []
    for code in range(2 ** len(value)):
        chosen = [pick for place, pick in enumerate(value) if code >> place & 1]
        sums.append(tuple(tie for tie in range(len(web[1])) if sum(tie in pick for pick in chosen) % 2))
    return sorted(sums) == sorted(evens(web))


def is_lead(web, other, spots, ties):
    """Whether these orders of the other web's spots and ties are a lead."""
    return all(tuple(sorted((spots[a], spots[b]))) == other[1][ties[tie]] for tie, (a, b) in enumerate(web[1]))


def all_leads(web, other):
    """All leads of small webs, by all orders of the spots and of the ties."""
    if web[0] != other[0] or len(web[1]) != len(other[1]):
        return []
    found = []
    for spots in permutations(range(other[0])):
        goals = [tuple(sorted((spots[a], spots[b]))) for a, b in web[1]]
        rows = [()]
        for goal in goals:
            rows = [(*row, tie) for row in rows for tie, ends in enumerate(other[1]) if ends == goal and tie not in row]
        found.extend((spots, ties) for ties in rows)
    return sorted(found)


def keeps(web, laying, other, last, lead):
    """Whether the lead keeps both layings: the darts are led in all ways that the document allows."""
    spots, ties = lead
    behind, further = {}, {}
    for known, turns in ((behind, laying), (further, last)):
        for turn in turns:
            known.update({dart: turn[(at + 1) % len(turn)] for at, dart in enumerate(turn)})
    choices = []
    for tie, ends in enumerate(web[1]):
        goal = ties[tie]
        both = [(2 * goal, 2 * goal + 1), (2 * goal + 1, 2 * goal)]
        goals = other[1][goal]
        choices.append([pair for pair in both if all(goals[dart % 2] == spots[spot] for dart, spot in zip(pair, ends))])
    for pairs in product(*choices):
        led = [dart for pair in pairs for dart in pair]
        if all(further[led[dart]] == led[behind[dart]] for dart in behind):
            return True
        if all(further[led[behind[dart]]] == led[dart] for dart in behind):
            return True
    return False


def classes(web, layings):
    """The layings in classes of such as some lead from the web to itself keeps."""
    leads = all_leads(web, web)
    found = []
    for laying in layings:
        for row in found:
            if any(keeps(web, row[0], web, laying, lead) for lead in leads):
                row.append(laying)
                break
        else:
            found.append([laying])
    return found
