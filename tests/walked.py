"""Courses beside their plain walks, for the tests that hold the two against each other."""

import functools

from cases import some_large
from plain_walk import PlainWalk
from stepposts.course import Course
from stepposts.tree import Tree


def walked(above_by, standing, deeds, more):
    """Give a course and its plain walk, to some years behind the latest that may be the orderly one."""
    last = max([deed[0] for deed in deeds], default=0) + len(above_by) + len(deeds) + more
    return Course(Tree(above_by), standing, deeds=deeds), PlainWalk(above_by, standing, deeds, last)


def walked_long(above_by, standing, deeds):
    """Give them so far that who comes in the orderly year, or soon behind, is gone."""
    return walked(above_by, standing, deeds, 2 * (len(above_by) + len(deeds)) + 5)


@functools.cache
def large_walked():
    """Give them of the large trees, once for all tests."""
    return [walked_long(*case) for case in list(some_large())[:-1]]
