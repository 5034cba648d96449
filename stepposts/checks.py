"""Things that are handed in at several doors, given back where they are what they should be."""

from stepposts.errors import NoTree, NoYear
from stepposts.kinds import is_whole
from stepposts.tree import Tree


def checked_tree(thing):
    if not isinstance(thing, Tree):
        raise NoTree("no tree")
    return thing


def checked_post(tree, thing):
    # The tree itself refuses what is no post of it.
    tree.above(thing)
    return thing


def checked_year(thing, first):
    """Give a whole number back that is not ahead of the first one."""
    if not is_whole(thing) or thing < first:
        raise NoYear("no whole number, or one ahead of the first")
    return thing
