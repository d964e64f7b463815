"""Boards: what finding hues, and showing that there are none, have in common.

A row of free spots has, for each place, the tuple of the spots that it may still get; None for a place that is settled.
"""

from ringhues.webs import all_ends


class Board:
    """A web on a ring, both looked at already, with what is asked of them again and again."""

    def __init__(self, web, ring):
        k, d = ring
        self.ends = all_ends(web)
        self.spots = tuple(range(k))
        self.wide = [min(gap, k - gap) >= d for gap in range(k)]

    def far_apart(self, spot, other):
        """Whether two spots are at least d apart."""
        # A gap below 0 counts from the list's end, and so is looked up at k more: the same gap, the other way about.
        return self.wide[spot - other]

    def settled(self, free, place, spot):
        """The free spots that are left when a place gets a spot."""
        left = list(free)
        left[place] = None
        for end in self.ends[place]:
            if left[end] is not None:
                left[end] = tuple([other for other in left[end] if self.far_apart(spot, other)])
        return tuple(left)

    def ties_left(self, free, place):
        """To how many places that are not settled a place is tied."""
        return len([end for end in self.ends[place] if free[end] is not None])

    def bound(self, free):
        """The free spots, with places tied to no unsettled one settled: whatever they get, it hinders nobody."""
        return tuple([spots if self.ties_left(free, place) > 0 else None for place, spots in enumerate(free)])

    def narrowest(self, free):
        """The unsettled place with the fewest free spots, then with the most ties left; None where all are settled."""
        # Such a place has the fewest ways to go on, so the search stays small.
        ranks = []
        for place, spots in enumerate(free):
            if spots is not None:
                ranks.append((len(spots), -self.ties_left(free, place), place))
        return min(ranks)[2] if ranks else None

    def all_free(self, free):
        """Whether each unsettled place may get every spot."""
        return all([spots is None or spots == self.spots for spots in free])
