"""What the document says, done word by word and slowly, to look at the answers for small webs."""

from itertools import combinations


def all_picks(web):
    every = range(len(web[1]))
    return [pick for many in range(len(web[1]) + 1) for pick in combinations(every, many)]


def is_even(web, pick):
    counts = [0] * web[0]
    for tie in pick:
        for spot in web[1][tie]:
            counts[spot] += 1
    return all(count % 2 == 0 for count in counts)


def all_cuts(web):
    found = set()
    for code in range(2 ** web[0]):
        inside = [code >> spot & 1 for spot in range(web[0])]
        found.add(tuple(tie for tie, (a, b) in enumerate(web[1]) if inside[a] != inside[b]))
    return found


def least_ones(picks):
    """The picks, none of them (), within which there is no other one but ()."""
    sets = [frozenset(pick) for pick in picks if pick]
    return tuple(sorted(tuple(sorted(one)) for one in sets if not any(other < one for other in sets)))


def evens(web):
    return [pick for pick in all_picks(web) if is_even(web, pick)]


def rings(web):
    return least_ones(evens(web))


def bonds(web):
    return least_ones(all_cuts(web))


def pieces(web):
    name = list(range(web[0]))
    for a, b in web[1]:
        old, new = max(name[a], name[b]), min(name[a], name[b])
        name = [new if each == old else each for each in name]
    return tuple(sorted(tuple(spot for spot in range(web[0]) if name[spot] == head) for head in set(name)))


def blocks(web):
    """Two ties are in one block if a ring has both; the document says that this parts the ties."""
    known = rings(web)
    return tuple(sorted({
        tuple(sorted({tie} | {other for ring in known if tie in ring for other in ring})) for tie in range(len(web[1]))
    }))


def spots_of(web, pick):
    return {spot for tie in pick for spot in web[1][tie]}


def is_block(web):
    return len(blocks(web)) == 1 and spots_of(web, range(len(web[1]))) == set(range(web[0]))


def roads(web, spot, last):
    """All roads from spot to last, as pairs of their ties and the spots between."""
    found = []
    begun = [(spot, (), (spot,))]
    while begun:
        at, ties, been = begun.pop()
        if at == last:
            found.append((ties, been[1:-1]))
            continue
        for tie, (a, b) in enumerate(web[1]):
            if at in (a, b):
                further = b if at == a else a
                if further not in been:
                    begun.append((further, (*ties, tie), (*been, further)))
    return found


def most_apart(known):
    """How many of these roads are apart, at most."""
    if not known:
        return 0
    ties, spots = known[0]
    others = known[1:]
    apart = [road for road in others if not set(road[0]) & set(ties) and not set(road[1]) & set(spots)]
    return max(1 + most_apart(apart), most_apart(others))


def is_stop(known, spots, ties):
    return all(set(spots) & set(road[1]) or set(ties) & set(road[0]) for road in known)


def fewest_things(web, spot, last):
    known = roads(web, spot, last)
    things = [("spot", at) for at in range(web[0]) if at not in (spot, last)]
    things += [("tie", tie) for tie, ends in enumerate(web[1]) if set(ends) == {spot, last}]
    for many in range(len(things) + 1):
        for some in combinations(things, many):
            spots = [at for word, at in some if word == "spot"]
            if is_stop(known, spots, [tie for word, tie in some if word == "tie"]):
                return many
    return None


def all_ears(web, tie):
    """Some ears that begin with the tie, tried in all ways; None if there are none."""
    many = len(web[1])
    if many == 1:
        return ((tie,),)
    first, last = web[1][tie]
    if first == last:
        return None
    for ties, between in roads(web, last, first):
        if tie not in ties:
            found = _more_ears(web, [(tie, *ties)], {first, last, *between})
            if found is not None:
                return found
    return None


def _more_ears(web, ears, spots):
    used = {tie for ear in ears for tie in ear}
    if len(used) == len(web[1]):
        return tuple(ears)
    for a, b in combinations(sorted(spots), 2):
        for ties, between in roads(web, a, b):
            if not used & set(ties) and not spots & set(between):
                # Ears put on stay possible: what can be put on later can be put on behind this one, too.
                return _more_ears(web, ears + [ties], spots | set(between))
    return None


def rises(web, tie, row):
    spots, ties = web
    if sorted(row) != list(range(spots)) or (row[0], row[-1]) != ties[tie]:
        return False
    for place, spot in enumerate(row):
        if 0 < place < spots - 1:
            others = [b if spot == a else a for a, b in ties if spot in (a, b) and a != b]
            places = [row.index(other) for other in others]
            if not any(other < place for other in places) or not any(other > place for other in places):
                return False
    return True


def shared(web, pick):
    rest = [tie for tie in range(len(web[1])) if tie not in pick]
    return tuple(sorted(spots_of(web, pick) & spots_of(web, rest)))


def is_parting(web, pick):
    return len(pick) >= 2 and len(web[1]) - len(pick) >= 2 and len(shared(web, pick)) == 2


def partings(web):
    """All picks without the tie 0 that part the web."""
    return [pick for pick in all_picks(web) if 0 not in pick and is_parting(web, pick)]


def do_cross(web, pick, other):
    every = set(range(len(web[1])))
    sides = [set(pick), every - set(pick)]
    others = [set(other), every - set(other)]
    return all(side & further for side in sides for further in others)


def joins(web):
    known = partings(web)
    return tuple(sorted(pick for pick in known if not any(do_cross(web, pick, other) for other in known)))


def tree(web):
    """The tree, by the words of the document, from the joins as partings tell them."""
    sides = [set(side) for side in joins(web)]
    parts = []
    for number in range(len(sides) + 1):
        side = set(range(len(web[1]))) if number == 0 else sides[number - 1]
        inside = [join for join, other in enumerate(sides) if other <= side and (number == 0 or other < side)]
        members = [tie for tie in side if not any(tie in sides[join] for join in inside)]
        members += [-1 - join for join in inside
                    if not any(sides[join] < sides[other] for other in inside)]
        members += [-number] if number else []
        members = tuple(sorted(members))
        parts.append((kind(web, sides, members), members))
    return tuple(parts)


def kind(web, sides, members):
    ends = [web[1][member] if member >= 0 else shared(web, sides[-1 - member]) for member in members]
    names = sorted({spot for pair in ends for spot in pair})
    part = (len(names), tuple((names.index(a), names.index(b)) for a, b in ends))
    if len(members) == 1:
        return "line"
    if rings(part) == (tuple(range(len(ends))),):
        return "ring"
    return "bundle" if len(names) == 2 and len(members) >= 3 else "firm"
