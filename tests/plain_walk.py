"""A plain walk year by year, out of points 5 and 8 alone, and what it shows of the other points."""

from shapes import way_up


def is_orderly_plain(above_by, standing):
    ranks = {post: rank for rank, (_, post) in enumerate(standing)}
    return not any(ranks[one] > ranks[post] for post in ranks for one in way_up(above_by, post)[1:])


def all_below(above_by, post):
    """Give a post and all below it."""
    return [one for one in above_by if post in way_up(above_by, one)]


def word_plain(above_by, standing, post):
    """Give a post's word: of those who stand below it, by service, the post on the way right below it."""
    ways = [way_up(above_by, held) for _, held in standing]
    return [way[way.index(post) - 1] for way in ways if post in way[1:]]


def runs(years):
    """Give a set of years as tuples (first, behind) that don't touch."""
    found = []
    for year in sorted(years):
        if year - 1 not in years:
            found.append([year, year])
        found[-1][1] = year + 1
    return [tuple(row) for row in found]


class PlainWalk:
    """What stands in each year up to a last one, each year's tree, and all who ever come."""

    def __init__(self, above_by, standing, deeds, last):
        self.above_by = dict(above_by)
        self.rows = [list(row) for row in standing]
        self.deeds = deeds
        self.folk = [folk for folk, _ in standing]
        self.trees = []
        self.standings = []
        self.came_to = [None]
        self.kept = {}
        for year in range(last + 1):
            self.one_year(year)

    def one_year(self, year):
        if year > 0:
            self.came_to.append(self.leaves(self.head(), (year, 0)))
        came = 0
        for deed in [deed for deed in self.deeds if deed[0] == year]:
            if deed[1] == "leave":
                came += 1
                self.leaves(deed[2], (year, came))
            elif deed[1] == "open":
                came += 1
                self.above_by[deed[2]] = deed[3]
                self.comes((year, came), deed[2])
            else:
                self.rows = [row for row in self.rows if row[1] != deed[2]]
                del self.above_by[deed[2]]
        self.trees.append(dict(self.above_by))
        self.standings.append([tuple(row) for row in self.rows])

    def head(self):
        return [post for post in self.above_by if self.above_by[post] is None][0]

    def comes(self, folk, post):
        self.folk.append(folk)
        self.rows.append([folk, post])

    def leaves(self, vacant, comer):
        """Fill a post whose holder goes, and give the one to which the newcomer comes."""
        self.rows = [row for row in self.rows if row[1] != vacant]
        while True:
            below = [row for row in self.rows if self.above_by[row[1]] == vacant]
            if not below:
                self.comes(comer, vacant)
                return vacant
            left = below[0][1]
            below[0][1] = vacant
            vacant = left

    def orderly_year(self):
        if "orderly" not in self.kept:
            last_deeds = max([deed[0] for deed in self.deeds], default=0)
            years = range(last_deeds, len(self.trees))
            self.kept["orderly"] = [y for y in years if is_orderly_plain(self.trees[y], self.standings[y])][0]
        return self.kept["orderly"]

    def folk_by(self, year):
        if year not in self.kept:
            self.kept[year] = {post: folk for folk, post in self.standings[year]}
        return self.kept[year]

    def turn_years(self, post):
        """Give all years behind the orderly one in which a post has a turn."""
        years = range(self.orderly_year() + 1, len(self.trees))
        return [year for year in years if self.folk_by(year - 1)[post] != self.folk_by(year)[post]]

    def place_rows(self):
        """Give of all folk the rows (year, post, who stands right above)."""
        found = {folk: [] for folk in self.folk}
        for year, above_by in enumerate(self.trees):
            folk_by = self.folk_by(year)
            for folk, post in self.standings[year]:
                found[folk].append((year, post, folk_by.get(above_by[post])))
        return found


def way_plain(rows):
    """Give a way, from a folk's rows (year, post, who stands right above)."""
    found = []
    for post in sorted({post for _, post, _ in rows}):
        found += [(post, *run) for run in runs({year for year, held, _ in rows if held == post})]
    return sorted(found, key=lambda row: row[1])


def right_above_plain(rows, folk):
    """Give the years in which the folk stands right above another one, from the other one's rows."""
    return runs({year for year, _, above in rows if above == folk})


def over_plain(rows):
    found = []
    for folk in {above for _, _, above in rows if above is not None}:
        found += [(folk, *run) for run in right_above_plain(rows, folk)]
    return sorted(found, key=lambda row: row[1])


def in_branch_plain(rows, branch, orderly):
    return runs({year for year, post, _ in rows if post in branch and year >= orderly})
