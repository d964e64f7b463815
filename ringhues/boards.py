"""Boards: what finding hues and maps, and showing that there are no hues, have in common.

A row of free spots has, for each place, the tuple of the spots that it may still get; None for a place that is settled.
"""

from ringhues.webs import all_ends


class Board:
    """A web whose places are to get spots, with what is asked of it again and again.

    Apart tells, for each two spots, whether tied places may have them; alike, whether each spot can be turned to
    each other one, what may be had staying so.
    """

    def __init__(self, web, apart, alike):
        self.ends = all_ends(web)
        self.spots = tuple(range(len(apart)))
        self.apart = apart
        self.alike = alike

    def far_apart(self, spot, other):
        """Whether tied places may have two spots."""
        return self.apart[spot][other]

    def settled(self, free, place, spot):
        """The free spots that are left when a place gets a spot."""
        left = list(free)
        left[place] = None
        for end in self.ends[place]:
            if left[end] is not None:
                left[end] = tuple([other for other in left[end] if self.far_apart(spot, other)])
        return tuple(left)

    def ties_left(self, free, place):
        """To how many places that are not settled a place is tied."""
        return len([end for end in self.ends[place] if free[end] is not None])

    def bound(self, free):
        """The free spots, with places tied to no unsettled one settled: whatever they get, it hinders nobody."""
        return tuple([spots if self.ties_left(free, place) > 0 else None for place, spots in enumerate(free)])

    def narrowest(self, free):
        """The unsettled place with the fewest free spots, then with the most ties left; None where all are settled."""
        # Such a place has the fewest ways to go on, so the search stays small.
        ranks = []
        for place, spots in enumerate(free):
            if spots is not None:
                ranks.append((len(spots), -self.ties_left(free, place), place))
        return min(ranks)[2] if ranks else None

    def all_free(self, free):
        """Whether each unsettled place may get every spot."""
        return all([spots is None or spots == self.spots for spots in free])


def ring_board(web, ring):
    """The board of hues of a web on a ring, both looked at already."""
    k, d = ring
    wide = [min(gap, k - gap) >= d for gap in range(k)]
    # A gap below 0 counts from the list's end, and so is looked up at k more: the same gap, the other way about.
    return Board(web, [[wide[spot - other] for other in range(k)] for spot in range(k)], True)


def map_board(web, other):
    """The board of maps of a web to another one, both looked at already."""
    return Board(web, [[place in ends for place in range(other[0])] for ends in all_ends(other)], False)
