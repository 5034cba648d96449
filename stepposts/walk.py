"""The years of a course up to the orderly one, gone through one by one."""

from stepposts.deeds import behind_deed, brings_newcomer, deeds_by_year
from stepposts.standing import behind_leave, orderly


class Walk:
    """What stands in each year from 0 up to the orderly one, which is the last.

    Of each year are kept its tree and its standing behind the deeds, the post to
    which its newcomer comes ahead of them, and how many come by them.
    """

    def __init__(self, tree, standing, deeds):
        deeds_by = deeds_by_year(deeds)
        last_deeds = max(list(deeds_by), default=0)
        self.trees = []
        self.standings = []
        self.came_to = [None]
        self.by_deeds = []
        self._keep_deeds(tree, standing, deeds_by)
        while len(self.trees) <= last_deeds or not orderly(self.trees[-1], self.standings[-1]):
            tree = self.trees[-1]
            rows = behind_leave(tree, self.standings[-1], tree.head(), (len(self.trees), 0))
            self.came_to.append(rows[-1][1])
            self._keep_deeds(tree, rows, deeds_by)

    def _keep_deeds(self, tree, standing, deeds_by):
        """Keep what stands in the next year, where this stands ahead of its deeds."""
        year = len(self.trees)
        came = 0
        for deed in deeds_by.get(year, []):
            tree, standing = behind_deed(tree, standing, deed, (year, came + 1))
            if brings_newcomer(deed):
                came += 1
        self.trees.append(tree)
        self.standings.append(standing)
        self.by_deeds.append(came)
