"""Whether a web can be laid flat, and one flat laying, by the left-right way of de Fraysseix, Rosenstiehl and Brandes.

The web is searched in depth. Each edge that does not lead to a new spot returns to one from which the search came,
round the left or the right of the way between. The search finds which of these must go round like one another, and
which unlike. Edges here are told by their places in a list of pairs of spots; none is a loop, no two are alike.
"""


class Search:
    """What is known of the edges while a web is searched."""

    def __init__(self, spots, pairs):
        self.rows = [[] for _ in range(spots)]
        for edge, (a, b) in enumerate(pairs):
            self.rows[a].append((edge, b))
            self.rows[b].append((edge, a))
        # For each spot: how far from where the search began, the edge that led to it, the edges that lead away.
        self.height = [None] * spots
        self.above = [None] * spots
        self.away = [[] for _ in range(spots)]
        # For each edge: where it leads, and the lowest and next to lowest heights to which one returns beyond it.
        self.goal = [None] * len(pairs)
        self.low = [0] * len(pairs)
        self.second = [0] * len(pairs)
        self.nested = [0] * len(pairs)
        self.lowest = [None] * len(pairs)
        # For each edge one that goes round like it, or unlike it if the side of the edge is -1.
        self.like = [None] * len(pairs)
        self.side = [1] * len(pairs)
        # Pairs of runs of returning edges that must go round unlike one another: left low, high, right low, high.
        self.stack = []


def shrunk(spots, pairs):
    """The masks of neighbours of what is left if spots with two neighbours or fewer are taken out again and again.

    Two neighbours of a spot that is taken out become neighbours of one another. This changes nothing about whether
    a web can be laid flat; of one that is woven of two roads nothing is left. The result is a dict.
    """
    beside = [0] * spots
    for a, b in pairs:
        if a != b:
            beside[a] = beside[a] | (1 << b)
            beside[b] = beside[b] | (1 << a)
    queue = list(range(spots))
    gone = 0
    while queue:
        spot = queue.pop()
        near = beside[spot]
        rest = near & (near - 1)
        if rest & (rest - 1) or gone >> spot & 1:
            continue
        gone = gone | (1 << spot)
        if near:
            low, high = (near ^ rest).bit_length() - 1, rest.bit_length() - 1
            beside[low] = beside[low] & ~(1 << spot) | rest
            queue.append(low)
            if rest:
                beside[high] = beside[high] & ~(1 << spot) | (near ^ rest)
                queue.append(high)
    return {spot: beside[spot] for spot in range(spots) if not gone >> spot & 1}


def lies_flat(spots, pairs):
    """Whether the web of these ties, loops and ties beside one another among them, has a flat laying."""
    core = shrunk(spots, pairs)
    many = len(core)
    if many < 5:
        return True
    names = {spot: name for name, spot in enumerate(core)}
    found = []
    for spot in core:
        mask = core[spot] >> (spot + 1) << (spot + 1)
        while mask:
            low = mask & -mask
            found.append((names[spot], names[low.bit_length() - 1]))
            mask = mask ^ low
    if len(found) > 3 * many - 6:
        return False
    return _searched(many, found) is not None


def flat_rows(spots, pairs):
    """For each spot the row of its darts as they go round in a flat laying of the web of these ties; None if none."""
    groups = {}
    for tie, (a, b) in enumerate(pairs):
        groups.setdefault((a, b), []).append(tie)
    edges = [pair for pair in groups if pair[0] != pair[1]]
    if len(edges) > 3 * spots - 6 and spots > 2:
        return None
    search = _searched(spots, edges)
    if search is None:
        return None
    rows = [[] for _ in range(spots)]
    for spot, row in enumerate(_placed(search, edges)):
        for edge in row:
            first, _ = edges[edge]
            ties = groups[edges[edge]]
            # Ties beside one another go round the one way at their first end, the other way at their second one.
            rows[spot].extend([2 * tie for tie in ties] if spot == first else [2 * tie + 1 for tie in ties[::-1]])
        for tie in groups.get((spot, spot), []):
            rows[spot].extend([2 * tie, 2 * tie + 1])
    return rows


def _searched(spots, pairs):
    """The search of the web, with all that it tells of the edges; None if the web has no flat laying."""
    search = Search(spots, pairs)
    for root in range(spots):
        if search.height[root] is None:
            search.height[root] = 0
            _orient(search, root)
            if not _fits(search, root):
                return None
    return search


def _orient(search, spot):
    """Searches on from the spot, and tells each edge beyond it which way it leads and how low one returns there."""
    goal, low, second = search.goal, search.low, search.second
    above, here = search.above[spot], search.height[spot]
    for edge, further in search.rows[spot]:
        if goal[edge] is not None:
            continue
        goal[edge] = further
        search.away[spot].append(edge)
        low[edge] = second[edge] = here
        if search.height[further] is None:
            search.above[further] = edge
            search.height[further] = here + 1
            _orient(search, further)
        else:
            low[edge] = search.height[further]
        search.nested[edge] = 2 * low[edge] + (1 if second[edge] < here else 0)
        if above is None:
            continue
        if low[edge] < low[above]:
            second[above] = min(low[above], second[edge])
            low[above] = low[edge]
        else:
            second[above] = min(second[above], second[edge] if low[edge] == low[above] else low[edge])
    nested = search.nested
    search.away[spot] = sorted(search.away[spot], key=lambda edge: nested[edge])


def _fits(search, spot):
    """Whether the edges beyond the spot can all go round; notes which ones must do so like or unlike others."""
    above, here = search.above[spot], search.height[spot]
    first = True
    for edge in search.away[spot]:
        bottom = len(search.stack)
        further = search.goal[edge]
        if search.above[further] == edge:
            if not _fits(search, further):
                return False
        else:
            search.lowest[edge] = edge
            search.stack.append([None, None, edge, edge])
        if search.low[edge] < here:
            if first:
                search.lowest[above] = search.lowest[edge]
            elif not _bound(search, edge, above, bottom):
                return False
        first = False
    if above is not None:
        _trim(search, above, here - 1)
    return True


def _bound(search, edge, above, bottom):
    """Binds the edges that return beyond the edge to those beyond the earlier ones; whether this can be."""
    low, like, stack = search.low, search.like, search.stack
    left_low, left_high, right_low, right_high = None, None, None, None
    while len(stack) > bottom:
        one_low, one_high, two_low, two_high = stack.pop()
        if one_low is not None:
            if two_low is not None:
                return False
            two_low, two_high = one_low, one_high
        if low[two_low] > low[above]:
            if right_low is None:
                right_high = two_high
            else:
                like[right_low] = two_high
            right_low = two_low
        else:
            like[two_low] = search.lowest[above]
    reach = low[edge]
    while stack and (_beyond(low, stack[-1][1], reach) or _beyond(low, stack[-1][3], reach)):
        one_low, one_high, two_low, two_high = stack.pop()
        if _beyond(low, two_high, reach):
            one_low, one_high, two_low, two_high = two_low, two_high, one_low, one_high
            if _beyond(low, two_high, reach):
                return False
        if two_low is not None:
            if right_low is None:
                right_high = two_high
            else:
                like[right_low] = two_high
            right_low = two_low
        if left_low is None:
            left_high = one_high
        else:
            like[left_low] = one_high
        left_low = one_low
    if left_low is not None or right_low is not None:
        stack.append([left_low, left_high, right_low, right_high])
    return True


def _beyond(low, high, reach):
    """Whether there is a run of returning edges with this highest one, and this one returns above the height reach."""
    return high is not None and low[high] > reach


def _trim(search, edge, height):
    """Takes away the edges that return to where the edge begins, at this height, once all beyond it are bound."""
    low, like, side, stack, goal = search.low, search.like, search.side, search.stack, search.goal
    heights = search.height
    while stack and _lowest_of(low, stack[-1]) == height:
        pair = stack.pop()
        if pair[0] is not None:
            side[pair[0]] = -1
    if stack:
        pair = stack[-1]
        for mine, other in ((0, 2), (2, 0)):
            high = pair[mine + 1]
            while high is not None and heights[goal[high]] == height:
                high = like[high]
            if high is None and pair[mine] is not None:
                like[pair[mine]] = pair[other]
                side[pair[mine]] = -1
                pair[mine] = None
            pair[mine + 1] = high
    if low[edge] < height:
        left, right = stack[-1][1], stack[-1][3]
        like[edge] = left if left is not None and (right is None or low[left] > low[right]) else right


def _lowest_of(low, pair):
    """The lowest height to which an edge of either run of the pair returns."""
    if pair[0] is None:
        return low[pair[2]]
    if pair[2] is None:
        return low[pair[0]]
    return min(low[pair[0]], low[pair[2]])


def _placed(search, pairs):
    """For each spot the row of its edges as they go round, when the search of the web has found that they can."""
    _settle(search)
    worth = [search.side[edge] * search.nested[edge] for edge in range(len(pairs))]
    rows = [sorted(row, key=lambda edge: worth[edge]) for row in search.away]
    marks = [None] * len(rows)
    for root, above in enumerate(search.above):
        if above is None:
            _place(search, root, rows, marks)
    return rows


def _settle(search):
    """Makes the side of each edge its own, no longer one beside that of the edge that it is like."""
    for edge in range(len(search.side)):
        chain = []
        at = edge
        while search.like[at] is not None:
            chain.append(at)
            at = search.like[at]
        for one in chain[::-1]:
            search.side[one] = search.side[one] * search.side[search.like[one]]
        for one in chain:
            search.like[one] = None


def _place(search, spot, rows, marks):
    """Puts each edge beyond the spot, in order, into the row of the spot to which it leads.

    The marks of a spot are the edges in its row beside which the next ones that return on the left and right stand.
    """
    for edge in list(rows[spot]):
        further = search.goal[edge]
        if further == spot:
            continue
        if search.above[further] == edge:
            rows[further].insert(0, edge)
            marks[spot] = [edge, edge]
            _place(search, further, rows, marks)
        elif search.side[edge] == 1:
            rows[further].insert(rows[further].index(marks[further][1]) + 1, edge)
        else:
            rows[further].insert(rows[further].index(marks[further][0]), edge)
            marks[further][0] = edge
