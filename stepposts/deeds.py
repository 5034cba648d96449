"""Deeds, that change what stands in a year, and its tree."""

from stepposts.errors import NoDeeds
from stepposts.kinds import is_list, is_name, is_tuple, is_whole
from stepposts.standing import behind_leave
from stepposts.tree import Tree

LAST_YEAR = 1000

# How many posts a deed names, by its word.
POSTS_BY_WORD = {"leave": 1, "open": 2, "shut": 1}


def deeds_by_year(deeds):
    """Give each year's deeds, in the order in which the list has them."""
    if deeds is None:
        return {}
    if not is_list(deeds):
        raise NoDeeds("deeds are a list")
    found = {}
    for deed in deeds:
        if not _has_form(deed):
            raise NoDeeds("a deed has not the form of one")
        found.setdefault(deed[0], []).append(deed)
    return found


def behind_deed(tree, standing, deed, comer):
    """Give the tree and the standing behind a deed, which the comer comes by."""
    word = deed[1]
    post = deed[2]
    if word == "open":
        return _opened(tree, post, deed[3]), standing + [(comer, post)]
    if post not in tree.posts():
        raise NoDeeds("a deed's post is no post of the tree")
    if word == "leave":
        return tree, behind_leave(tree, standing, post, comer)
    return _without(tree, post), [row for row in standing if row[1] != post]


def brings_newcomer(deed):
    return deed[1] != "shut"


def _has_form(deed):
    if not is_tuple(deed, 3) and not is_tuple(deed, 4):
        return False
    year, word, *posts = deed
    if not is_whole(year) or not 0 <= year <= LAST_YEAR:
        return False
    # Asked first, as a thing that is no text may be no key of a dict.
    if not isinstance(word, str) or word not in POSTS_BY_WORD:
        return False
    return len(posts) == POSTS_BY_WORD[word] and all([is_name(post) for post in posts])


def _opened(tree, post, above):
    above_by = _above_by(tree)
    if post in above_by or above not in above_by:
        raise NoDeeds("a post is opened that is there, or below one that is not")
    above_by[post] = above
    return Tree(above_by)


def _without(tree, post):
    if post == tree.head() or tree.below(post):
        raise NoDeeds("a post is shut that is the head, or has others below it")
    above_by = _above_by(tree)
    del above_by[post]
    return Tree(above_by)


def _above_by(tree):
    return {post: tree.above(post) for post in tree.posts()}
