"""Webs and values that several tests use."""

import random

W = (4, ((0, 1), (0, 2), (0, 3), (1, 2), (1, 3), (2, 3)))
H = (5, ((0, 1), (1, 2), (0, 3), (2, 3), (0, 4), (2, 4)))
P = (4, ((0, 1), (0, 1), (1, 2), (2, 2), (2, 3)))
R = (5, ((0, 1), (1, 2), (2, 3), (3, 4), (0, 4), (0, 2)))
F = (5, tuple((a, b) for a in range(5) for b in range(a + 1, 5)))
# Each of three spots tied to each of three others.
T = (6, tuple((a, b) for a in range(3) for b in range(3, 6)))
PETERSEN = (10, tuple([(at, at + 1) for at in range(4)] + [(0, 4)] + [(at, at + 5) for at in range(5)]
                      + [(5, 7), (7, 9), (6, 9), (6, 8), (5, 8)]))
BARE = (1, ())
LOOP = (1, ((0, 0),))
LINE = (2, ((0, 1),))


def ring(spots):
    """A ring of so many spots and ties, three at least."""
    return (spots, tuple((at, at + 1) for at in range(spots - 1)) + ((0, spots - 1),))


def bundle(ties):
    """Two spots with so many ties between them."""
    return (2, ((0, 1),) * ties)


def path(spots):
    return (spots, tuple((at, at + 1) for at in range(spots - 1)))


def full(spots):
    return (spots, tuple((a, b) for a in range(spots) for b in range(a + 1, spots)))


def wheel(rim):
    """A spot 0 with a tie to each spot of a ring of so many."""
    spokes = tuple((0, at) for at in range(1, rim + 1))
    return (rim + 1, spokes + tuple((at, at + 1) for at in range(1, rim)) + ((1, rim),))


def ladder(rungs):
    """Two paths with a rung between each two spots of the same place."""
    ties = []
    for at in range(rungs):
        ties.append((2 * at, 2 * at + 1))
        if at + 1 < rungs:
            ties.extend([(2 * at, 2 * at + 2), (2 * at + 1, 2 * at + 3)])
    return (2 * rungs, tuple(ties))


def prism(sides):
    """Two rings of so many spots with a tie between each two of the same place."""
    ties = []
    for at in range(sides):
        further = (at + 1) % sides
        ties.append((at, at + sides))
        ties.append((min(at, further), max(at, further)))
        ties.append((sides + min(at, further), sides + max(at, further)))
    return (2 * sides, tuple(ties))


def fan_of_paths(paths, length):
    """So many roads of so many ties each from spot 0 to spot 1."""
    ties = []
    spots = 2
    for _ in range(paths):
        at = 0
        for _ in range(length - 1):
            ties.append((min(at, spots), max(at, spots)))
            at = spots
            spots += 1
        ties.append((min(at, 1), max(at, 1)))
    return (spots, tuple(ties))


def chain_of(count, many):
    """A row of spots, each with so many ties to the next one."""
    return (count + 1, tuple((at, at + 1) for at in range(count) for _ in range(many)))


def beside_one_another(*webs):
    """One web of all these, none with a spot of another one."""
    spots, ties = 0, []
    for web in webs:
        ties.extend([(a + spots, b + spots) for a, b in web[1]])
        spots += web[0]
    return (spots, tuple(ties))


def tied_on(web, more, spot=0):
    """The web with the spot 0 of a further web laid on one of its spots."""
    names = [spot] + [web[0] + at for at in range(more[0] - 1)]
    ends = [(names[a], names[b]) for a, b in more[1]]
    return (web[0] + more[0] - 1, web[1] + tuple((min(pair), max(pair)) for pair in ends))


def with_loops(web, many, spot=0):
    return (web[0], web[1] + ((spot, spot),) * many)


def with_spots(web, spots):
    """The web with spots without ties behind, till it has so many."""
    return (spots, web[1])


def random_web(rng, spots, ties, loops=True):
    found = []
    while len(found) < ties:
        a, b = rng.randrange(spots), rng.randrange(spots)
        if loops and spots == 1 or a != b or (loops and rng.random() < 0.3):
            found.append((min(a, b), max(a, b)))
    return (spots, tuple(found))


def random_block(rng, spots, ties):
    """A web that is grown by ears, so that it is a block, with its spots and ties in any order."""
    if spots == 1:
        return LOOP
    ends = [(0, 1)]
    have = 2
    while have < spots or len(ends) < ties:
        room = max(ties - len(ends) - 1, spots - have)
        inner = min(rng.randrange(room + 1), spots - have)
        if len(ends) + 1 >= ties:
            inner = spots - have
        first, last = rng.sample(range(have), 2)
        line = [first] + list(range(have, have + inner)) + [last]
        ends.extend(zip(line, line[1:]))
        have += inner
    names = rng.sample(range(spots), spots)
    ends = [(names[a], names[b]) for a, b in ends]
    rng.shuffle(ends)
    return (spots, tuple((min(pair), max(pair)) for pair in ends))


def flat_web(rng, spots, ties):
    """A web of so many spots, three at least, with a flat laying, and at most so many ties, none beside another one."""
    ends = [(0, 1), (0, 2), (1, 2)]
    corners = [(0, 1, 2), (0, 1, 2)]
    for spot in range(3, spots):
        a, b, c = corners.pop(rng.randrange(len(corners)))
        ends.extend([(a, spot), (b, spot), (c, spot)])
        corners.extend([(a, b, spot), (a, c, spot), (b, c, spot)])
    return drawn_order(rng, (spots, tuple(rng.sample(ends, min(ties, len(ends))))))


def drawn_order(rng, web):
    """The web with its spots and ties in a drawn order."""
    names = rng.sample(range(web[0]), web[0])
    ends = [tuple(sorted((names[a], names[b]))) for a, b in rng.sample(web[1], len(web[1]))]
    return (web[0], tuple(ends))


def put_together(rng, *webs):
    """A block of all these blocks, each laid with a tie on a tie of those ahead, which goes or stays, in a drawn order."""
    spots, ties = webs[0]
    ties = list(ties)
    for further, more in webs[1:]:
        more = list(more)
        a, b = rng.choice(ties)
        low, high = more.pop(rng.randrange(len(more)))
        if rng.random() < 0.5:
            ties.remove((a, b))
        if rng.random() < 0.5:
            a, b = b, a
        names = {low: a, high: b}
        for spot in range(further):
            if spot not in names:
                names[spot] = spots
                spots += 1
        ties.extend(tuple(sorted((names[first], names[last]))) for first, last in more)
    return drawn_order(rng, (spots, tuple(ties)))


def drawn_parts(rng, most):
    """A block that is put together of rings, bundles, wheels and such, with at most so many ties."""
    makers = [lambda: ring(rng.randint(3, 9)), lambda: bundle(rng.randint(3, 6)), lambda: wheel(rng.randint(3, 7)),
              lambda: ring(rng.randint(3, 20)), lambda: bundle(rng.randint(3, 12))]
    webs, ties = [ring(3)], 3
    while True:
        web = rng.choice(makers)()
        if ties + len(web[1]) > most or rng.random() < 0.02:
            return put_together(rng, *webs)
        webs.append(web)
        ties += len(web[1])


def cubic_web(rng, spots):
    """A web with three ties at each spot, none a loop or beside another one; spots is even."""
    while True:
        ends = rng.sample([spot for spot in range(spots) for _ in range(3)], 3 * spots)
        ties = {tuple(sorted(ends[at:at + 2])) for at in range(0, 3 * spots, 2)}
        if len(ties) == 3 * spots // 2 and all(a != b for a, b in ties):
            return (spots, tuple(rng.sample(sorted(ties), len(ties))))


def small_webs(seed, many, most_spots=6, most_ties=8):
    """Small webs of all kinds, the same ones for the same seed."""
    rng = random.Random(seed)
    found = [BARE, LOOP, LINE, (3, ()), (2, ((0, 0), (1, 1))), W, H, P, R]
    for _ in range(many):
        spots = rng.randint(1, most_spots)
        ties = rng.randint(0, most_ties)
        if spots == 1:
            found.append((1, ((0, 0),) * rng.randint(0, 4)))
        else:
            found.append(random_web(rng, spots, ties, rng.random() < 0.5))
    return found


def small_blocks(seed, many, most_spots=6, most_ties=9):
    """Small blocks, the same ones for the same seed."""
    rng = random.Random(seed)
    found = [LOOP, LINE, bundle(2), bundle(3), bundle(4), bundle(5), ring(3), ring(4), ring(5), ring(6), W, H, R, F,
             wheel(4), ladder(4), prism(3), fan_of_paths(3, 3), fan_of_paths(4, 2)]
    for _ in range(many):
        spots = rng.randint(2, most_spots)
        found.append(random_block(rng, spots, rng.randint(spots, most_ties)))
    return found


def random_picks(rng, web, many):
    """Some picks of the web, () and that of all ties among them."""
    every = tuple(range(len(web[1])))
    picks = [(), every]
    for _ in range(many):
        share = rng.random()
        picks.append(tuple(tie for tie in every if rng.random() < share))
    return picks


# Values of the wrong kind, for whatever is asked of any value.
ODD_VALUES = [
    None, True, False, 0, 1, -1, 7, 10 ** 399, "", "0", "web", "\n", (), (()), ((),), ((), ()), [], [[]], {}, {"a": 1},
    {(0, 1): (0,)}, (None,), (None, None), (True,), (False,), (0,), [0], ("0",), (0, 0), (1, 0), (0, [0]), ([0], [0]),
    (0, 1, 2), ((0,),), ([0],), ((0,), None), (("0",),), ({},), ({0: 1},), ((None,),), ((True,),), ((0, True),),
    (((0,),),), ((("firm", (0, 1)),),), (("firm", [0]),), "firm", ("firm",), (((((((()),),),),),),), (-1,), ((-1,),),
    (10 ** 399,), ((10 ** 399,),), ((0, 10 ** 399),), (0, ((0, 1),)),
]


def far_webs():
    """Webs of up to 60 spots and 60 ties, of many kinds."""
    rng = random.Random(60)
    return {
        "bare": (60, ()),
        "loops": (1, ((0, 0),) * 60),
        "loops apart": (60, tuple((at, at) for at in range(60))),
        "ring": ring(60),
        "bundle": bundle(60),
        "path and a loop": with_loops(path(60), 1, 59),
        "star": (60, tuple((0, at) for at in range(1, 60))),
        "full": with_spots(full(11), 60),
        "full, as a block": full(11),
        "wheel": wheel(30),
        "ladder": ladder(20),
        "prism": prism(20),
        "roads of two ties": fan_of_paths(30, 2),
        "roads of six ties": fan_of_paths(10, 6),
        "three roads": fan_of_paths(3, 20),
        "pairs in a row": chain_of(30, 2),
        "pairs round a ring": (30, ring(30)[1] * 2),
        "three roads twice": beside_one_another(fan_of_paths(3, 10), fan_of_paths(3, 10)),
        "rings tied on": tied_on(tied_on(ring(20), ring(20)), ring(20), 7),
        "any": random_web(rng, 30, 60),
        "any, thin": random_web(rng, 50, 60),
        "any, thick": random_web(rng, 12, 60),
        "block": random_block(rng, 40, 60),
        "thin block": random_block(rng, 55, 60),
        "thick block": random_block(rng, 20, 60),
        "halves": (9, tuple((a, b) for a in range(4) for b in range(4, 9)) * 3),
    }
