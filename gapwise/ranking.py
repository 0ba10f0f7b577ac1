"""Games over points: which places have which ranks, orbit by orbit."""

from gapwise.codes import passage
from gapwise.families import least, opened, refined
from gapwise.points import merged_points
from gapwise.relating import Inside, Ties


def game_points(game):
    """The points of a game's four sets, put together."""
    points = ()
    for many in game:
        points = merged_points(points, many[1])
    return points


class Ranking:
    """The ranks of a game's places over points, among which the game's are.

    If let_only is true, moves of mine count only if all points of the place that they lead to are among the points and
    those of the place that they lead from. ranks has the ranks of the keys of orbits; levels has for each rank the
    table of its orbits. counted has the rows' keys and those of both places of the moves that count.
    """

    def __init__(self, game, points, let_only):
        places, mine, _, goal = game
        self.points = points
        self.skeletons = refined(opened(places), points)
        self.mine = Inside(opened(mine), points)
        self.ties = Ties(game[2], game_points(game))
        self.counted = self.moves_over(game, let_only)
        self.levels = []
        self.ranks = {}
        goals = Inside(opened(goal), points)
        level = [key for key in self.skeletons if goals.has(key, self.skeletons[key])]
        back, waiting = self.moves_back()
        while level:
            for key in level:
                self.ranks[key] = len(self.levels)
            self.levels.append({key: self.skeletons[key] for key in level})
            level = self.next_level(level, back, waiting)

    def is_mine(self, key):
        return self.mine.has(key, self.skeletons[key])

    def moves_over(self, game, let_only):
        """The moves that count: the keys of the rows over the points, and those of both places."""
        points = self.ties.points
        mine, way = Inside(opened(game[1]), points), passage(points, self.points)
        known, found = {}, []
        for (text, codes), first, _ in self.ties.orbits:
            one, other = self.ties.halves[text]
            alone = ()
            if let_only and mine.has(first, one.skeleton):
                alone = tuple([rank for rank in other.ranks if rank not in one.ranks])
            group = (codes, alone)
            if group not in known:
                known[group] = [row for row in way.finer(codes) if all([row[rank] % 2 == 1 for rank in alone])]
            for finer in known[group]:
                found.append(((text, finer), one.key(finer), other.key(finer)))
        return found

    def moves_back(self):
        """For each orbit those from which moves lead to it, one for each move; and how many moves lead from each."""
        back, waiting = {}, {}
        for _, first, second in self.counted:
            back.setdefault(second, []).append(first)
            waiting[first] = waiting.get(first, 0) + 1
        return back, waiting

    def next_level(self, level, back, waiting):
        """The list of the orbits without a rank that get the next one, behind those of a level."""
        found = {}
        for key in level:
            for first in back.get(key, []):
                waiting[first] -= 1
                if first not in self.ranks and (waiting[first] == 0 or self.is_mine(first)):
                    found[first] = True
        return list(found)

    def told_sets(self):
        """The list of the sets of the places of each rank."""
        return [least(self.points, table).plain() for table in self.levels]

    def rankless(self):
        """The set of the places without a rank."""
        return least(self.points, {key: self.skeletons[key] for key in self.skeletons if key not in self.ranks}).plain()

    def lowering(self):
        """The list of the moves that count, of mine, to places of a lower rank than that of the place ahead."""
        found = []
        for tie in self.counted:
            _, first, second = tie
            if second in self.ranks and self.ranks.get(first, 0) > self.ranks[second] and self.is_mine(first):
                found.append(tie)
        return found

    def rows_of(self, ties):
        """The set of the rows of some moves."""
        return least(self.points, {key: self.ties.skeletons[key[0]] for key, _, _ in ties}).plain()
