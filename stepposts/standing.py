"""Standings, and what becomes of one where somebody goes.

A standing is a list of tuples (folk, post), those first who have served longer.
"""

from stepposts.checks import checked_tree
from stepposts.errors import NoStanding
from stepposts.kinds import is_list, is_name, is_tuple


def is_orderly(tree, standing):
    """Tell whether nobody stands above one who has served longer."""
    checked_tree(tree)
    return orderly(tree, checked_standing(tree, standing))


def next_year(tree, standing):
    """Tell the standing of the year 1, where the standing is that of the year 0."""
    checked_tree(tree)
    return behind_leave(tree, checked_standing(tree, standing), tree.head(), (1, 0))


def checked_standing(tree, standing):
    """Give a standing of names as a list of one's own."""
    if not is_list(standing):
        raise NoStanding("a standing is a list")
    rows = []
    for row in standing:
        if not is_tuple(row, 2) or not is_name(row[0]) or not is_name(row[1]):
            raise NoStanding("a standing has tuples of a folk's name and a post")
        rows.append(row)
    if sorted([post for _, post in rows]) != tree.posts():
        raise NoStanding("each post of the tree stands in a standing just once")
    if len(set([folk for folk, _ in rows])) < len(rows):
        raise NoStanding("no folk stands in a standing twice")
    return rows


def orderly(tree, standing):
    """Tell of a standing that was checked, or of one with newcomers, whether it is orderly."""
    rank_by = _rank_by(standing)
    for post, rank in rank_by.items():
        above = tree.above(post)
        # Who stands farther above has served longer than the one right above then.
        if above is not None and rank_by[above] > rank:
            return False
    return True


def behind_leave(tree, standing, vacant, comer):
    """Give the standing behind the going of who holds a post; the comer has served least."""
    rank_by = _rank_by(standing)
    rows = list(standing)
    gone = rank_by[vacant]
    below = tree.below(vacant)
    while below:
        mover = min([rank_by[post] for post in below])
        folk, left = standing[mover]
        rows[mover] = (folk, vacant)
        vacant = left
        below = tree.below(vacant)
    del rows[gone]
    rows.append((comer, vacant))
    return rows


def holder_in(standing, post):
    """Give the folk that holds the post, None where nobody does."""
    for folk, held in standing:
        if held == post:
            return folk
    return None


def post_in(standing, folk):
    """Give the post that the folk holds, None where it holds none."""
    for one, held in standing:
        if one == folk:
            return held
    return None


def _rank_by(standing):
    return {post: rank for rank, (_, post) in enumerate(standing)}
