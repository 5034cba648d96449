"""A course: a tree, a standing of it, and what stands in each year behind it."""

from stepposts.checks import checked_post, checked_tree, checked_year
from stepposts.errors import NoFolk
from stepposts.kinds import is_name, is_tuple, is_whole
from stepposts.standing import behind_leave, checked_standing, holder_in, post_in
from stepposts.walk import Walk
from stepposts.words import pattern_of, turned, turns_of, words_behind, words_of, years_to_turn


class Course:
    """What stands in any year: walked up to the orderly one, and told by words behind it."""

    def __init__(self, tree, standing, *, deeds=None):
        checked_tree(tree)
        beginning = checked_standing(tree, standing)
        self._names = [folk for folk, _ in beginning]
        self._walk = Walk(tree, beginning, deeds)
        self._orderly = len(self._walk.trees) - 1
        self._tree = self._walk.trees[-1]
        self._words = words_of(self._tree, [post for _, post in self._walk.standings[-1]])

    def on_year(self, year):
        """Tell what stands in a year."""
        return self._standing_in(checked_year(year, 0))

    def tree_of(self, year):
        """Tell a year's tree."""
        return self._tree_in(checked_year(year, 0))

    def orderly_year(self):
        """Tell the first year, from the last deed's one on, whose standing is orderly."""
        return self._orderly

    def turns(self, post, year):
        """Tell how many turns a post has behind the orderly year, up to a year."""
        checked_post(self._tree, post)
        checked_year(year, self._orderly)
        return turns_of(self._tree, self._words, post, year - self._orderly)

    def turn_year(self, post, number):
        """Tell the year of a post's turn, by the turn's number from 1 on."""
        checked_post(self._tree, post)
        checked_year(number, 1)
        return self._orderly + years_to_turn(self._tree, self._words, post, number)

    def word(self, post, year):
        """Tell the word of a post in a year from the orderly one on."""
        turns = self.turns(post, year)
        return turned(self._words[post], turns)

    def holder(self, year, post):
        """Tell who holds a post in a year."""
        checked_year(year, 0)
        checked_post(self._tree_in(year), post)
        return holder_in(self._standing_in(year), post)

    def stands(self, folk, year):
        """Tell the post that a folk holds in a year, None where it isn't there."""
        self._checked_folk(folk)
        return post_in(self.on_year(year), folk)

    def way(self, folk):
        """Tell all posts that a folk ever holds, as tuples (post, first, behind)."""
        self._checked_folk(folk)
        return _stretches(_came(folk), [post for post, _ in self._served(folk)])

    def comes_to(self, year):
        """Tell the post to which the newcomer of a year comes, ahead of the year's deeds."""
        checked_year(year, 1)
        if year <= self._orderly:
            return self._walk.came_to[year]
        return self._standing_in(year)[-1][1]

    def right_above(self, folk, other):
        """Tell the years in which a folk stands right above another one, as tuples (first, behind)."""
        self._checked_folk(folk)
        return [(first, behind) for one, first, behind in self.over(other) if one == folk]

    def in_branch(self, folk, post):
        """Tell the years, from the orderly one on, in which a folk stands in a post's branch."""
        self._checked_folk(folk)
        branch = self._tree.branch(checked_post(self._tree, post))
        since = max(_came(folk), self._orderly)
        served = self._served(folk)[since - _came(folk):]
        inside = [True if held in branch else None for held, _ in served]
        return [(first, behind) for _, first, behind in _stretches(since, inside)]

    def over(self, folk):
        """Tell all who ever stand right above a folk, as tuples (folk, first, behind)."""
        self._checked_folk(folk)
        return _stretches(_came(folk), [above for _, above in self._served(folk)])

    def _checked_folk(self, folk):
        if not self._is_folk(folk):
            raise NoFolk("none of the course's folk")

    def _is_folk(self, folk):
        if is_name(folk):
            return folk in self._names
        if not is_tuple(folk, 2):
            return False
        year, number = folk
        if not is_whole(year) or not is_whole(number):
            return False
        if number == 0:
            return year > 0
        return 0 <= year <= self._orderly and 0 < number <= self._walk.by_deeds[year]

    def _tree_in(self, year):
        return self._walk.trees[min(year, self._orderly)]

    def _standing_in(self, year):
        """Give what stands in a year, as a list of one's own."""
        if year <= self._orderly:
            return list(self._walk.standings[year])
        words = words_behind(self._tree, self._words, year - self._orderly)
        return list(zip(self._folk_in(year), pattern_of(self._tree, words)))

    def _folk_in(self, year):
        """Give the folk of a year from the orderly one on by their service."""
        folk = [one for one, _ in self._walk.standings[-1]]
        # Behind the orderly year the one who has served longest goes each year.
        first = max(self._orderly + 1, year - len(folk) + 1)
        return folk[year - self._orderly:] + [(came, 0) for came in range(first, year + 1)]

    def _standing_behind(self, year, standing):
        """Give what stands in the year behind this one."""
        if year < self._orderly:
            return self._walk.standings[year + 1]
        # Quicker than by words, where years are asked for one behind another.
        return behind_leave(self._tree, standing, self._tree.head(), (year + 1, 0))

    def _served(self, folk):
        """Give of each year, from the folk's first one on, its post and who stands right above it."""
        found = []
        year = _came(folk)
        standing = self._standing_in(year)
        post = post_in(standing, folk)
        while post is not None:
            found.append((post, holder_in(standing, self._tree_in(year).above(post))))
            standing = self._standing_behind(year, standing)
            year += 1
            post = post_in(standing, folk)
        return found


def _came(folk):
    """Give the year in which a folk of a course comes."""
    if is_name(folk):
        return 0
    return folk[0]


def _stretches(year, values):
    """Give each value that isn't None as (value, first, behind), told of years one behind another."""
    found = []
    for worth in values:
        if found and found[-1][0] == worth:
            found[-1] = (worth, found[-1][1], year + 1)
        else:
            found.append((worth, year, year + 1))
        year += 1
    return [row for row in found if row[0] is not None]
