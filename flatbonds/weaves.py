"""Webs from which ties are taken, or in which they are drawn in, step by step."""


class Weave:
    """A web while steps are taken: the ends of the ties that are left, and the ties that stand at each spot."""

    def __init__(self, web):
        self.ends = {}
        self.at = {spot: [] for spot in range(web[0])}
        for tie, (a, b) in enumerate(web[1]):
            self._put(tie, a, b)

    def _put(self, tie, a, b):
        """Lets the tie stand at these spots."""
        self.ends[tie] = (a, b)
        self.at[a].append(tie)
        if a != b:
            self.at[b].append(tie)

    def _drop(self, tie):
        """Takes the tie out."""
        a, b = self.ends[tie]
        del self.ends[tie]
        self.at[a].remove(tie)
        if a != b:
            self.at[b].remove(tie)

    def can_take(self, step):
        """Whether the step, a word and a tie of the web, can be done."""
        word, tie = step
        if tie not in self.ends:
            return False
        a, b = self.ends[tie]
        if a == b or word == "loop":
            return a == b and word == "loop"
        if word == "beside":
            return len([other for other in self.at[a] if self._is_beside(tie, other)]) > 1
        if word == "end":
            return len(self.at[a]) == 1 or len(self.at[b]) == 1
        return word == "through" and (self._leads_through(tie, a) or self._leads_through(tie, b))

    def _is_beside(self, tie, other):
        """Whether both ties have the same ends."""
        return sorted(self.ends[tie]) == sorted(self.ends[other])

    def _leads_through(self, tie, spot):
        """Whether just one other tie stands at the spot, which is no loop, and not beside this tie."""
        others = [other for other in self.at[spot] if other != tie]
        if len(others) != 1 or self._is_beside(tie, others[0]):
            return False
        a, b = self.ends[others[0]]
        return a != b

    def take(self, step):
        """Does the step, which can be done."""
        word, tie = step
        gone, stays = self.ends[tie]
        self._drop(tie)
        if word == "through":
            for other in list(self.at[gone]):
                a, b = self.ends[other]
                self._drop(other)
                self._put(other, stays if a == gone else a, stays if b == gone else b)

    def some_step(self):
        """Any step that can be done, None if there is none."""
        for tie in self.ends:
            for word in ("loop", "beside", "end", "through"):
                if self.can_take((word, tie)):
                    return (word, tie)
        return None
