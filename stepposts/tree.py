"""A tree of posts."""

from stepposts.errors import NoPost, NoTree
from stepposts.kinds import is_name


class Tree:
    """Posts, each of them but the head right below another one; it never changes."""

    def __init__(self, above_by):
        self._above = _named(above_by)
        self._head = _one_head(self._above)
        self._below = _below_by(self._above)
        downward = _downward(self._head, self._below)
        # What the way down from the head doesn't reach never comes up to it.
        if len(downward) < len(self._above):
            raise NoTree("posts lead round, and not up to the head")
        self._size_by = _size_by(downward, self._above)

    def __eq__(self, other):
        return isinstance(other, Tree) and self._above == other._above

    def head(self):
        """Tell the post at the head."""
        return self._head

    def posts(self):
        """Tell all posts, in order."""
        return sorted(self._above)

    def above(self, post):
        """Tell the post right above, None for the head."""
        return self._above[self._checked(post)]

    def below(self, post):
        """Tell the posts right below, in order."""
        return list(self._below[self._checked(post)])

    def branch(self, post):
        """Tell the post and all posts below it, in order."""
        return sorted(_downward(self._checked(post), self._below))

    def size(self, post):
        """Tell how many posts the post's branch has."""
        return self._size_by[self._checked(post)]

    def _checked(self, post):
        # Asked first, as a thing that is no text may be no key of a dict either.
        if not isinstance(post, str) or post not in self._above:
            raise NoPost("no post of the tree")
        return post


def _named(above_by):
    """Give a dict of the tree's own, with names that lead to names or None."""
    if not isinstance(above_by, dict):
        raise NoTree("a tree is made of a dict")
    kept = {}
    for post, above in above_by.items():
        if not is_name(post):
            raise NoTree("a post is no name")
        if above is not None and not is_name(above):
            raise NoTree("the post right above is no name")
        kept[post] = above
    return kept


def _one_head(above_by):
    """Give the one post with none above, where all others are below posts."""
    heads = []
    for post, above in above_by.items():
        if above is None:
            heads.append(post)
        elif above not in above_by:
            raise NoTree("what is right above is no post")
    if len(heads) != 1:
        raise NoTree("there is not just one head")
    return heads[0]


def _below_by(above_by):
    below_by = {post: [] for post in above_by}
    for post in sorted(above_by):
        above = above_by[post]
        if above is not None:
            below_by[above].append(post)
    return below_by


def _downward(post, below_by):
    """Give the post and all below it, each one behind the one above it."""
    found = [post]
    at = 0
    # No call within a call: a chain may be longer than calls may be deep.
    while at < len(found):
        found.extend(below_by[found[at]])
        at += 1
    return found


def _size_by(downward, above_by):
    size_by = {post: 1 for post in downward}
    for post in reversed(downward):
        above = above_by[post]
        if above is not None:
            size_by[above] += size_by[post]
    return size_by
