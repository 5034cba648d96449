"""Orderly standings: how many there are, told by words, held against one another, led back."""

from math import factorial

from stepposts.checks import checked_post, checked_tree
from stepposts.course import Course
from stepposts.errors import NoFolk, NoStanding, NoTree, NoWords
from stepposts.kinds import is_list, is_name
from stepposts.rounds import meetings
from stepposts.standing import checked_standing, orderly
from stepposts.words import pattern_of, way_up


def orderly_many(tree):
    """Tell how many orderly standings a tree has for folk in a told order of service."""
    checked_tree(tree)
    many = factorial(len(tree.posts()))
    # Each branch's top has to be the first one of its branch, of as many as it has posts.
    for post in tree.posts():
        many = many // tree.size(post)
    return many


def by_words(tree, folk, words):
    """Tell the one orderly standing of folk by their service that has these words."""
    checked_tree(tree)
    names = _checked_folk(tree, folk)
    return list(zip(names, pattern_of(tree, _checked_words(tree, words))))


def pattern_years(course):
    """Tell behind how many years the pattern of a course's standings comes again."""
    tree, words = _orderly_words(course)
    return meetings(tree, words, words)[tree.head()][1]


def pattern_turns(course, post):
    """Tell behind how many turns of a post the words of its branch are the same again."""
    tree, words = _orderly_words(course)
    checked_post(tree, post)
    return meetings(tree, words, words)[post][1]


def held_against(one, other):
    """Tell how many years the second course's pattern is behind the first one's."""
    tree, words = _orderly_words(one)
    other_tree, other_words = _orderly_words(other)
    if tree != other_tree:
        raise NoTree("the courses have not the same tree")
    met = meetings(tree, words, other_words)[tree.head()]
    if met is None:
        return ("other",)
    return "later", met[0]


def led_back(tree, standing, folk):
    """Tell the orderly standing a year ahead, at whose head stood the folk that went."""
    checked_tree(tree)
    rows = checked_standing(tree, standing)
    if not orderly(tree, rows):
        raise NoStanding("no orderly standing")
    if not is_name(folk) or folk in [one for one, _ in rows]:
        raise NoFolk("who went has a name, and stands there no more")
    way = way_up(tree, rows[-1][1])
    lower_by = {above: post for post, above in zip(way, way[1:])}
    return [(folk, tree.head())] + [(one, lower_by.get(post, post)) for one, post in rows[:-1]]


def _orderly_words(course):
    """Give a course's tree and words in its orderly year."""
    if not isinstance(course, Course):
        raise NoTree("no course")
    year = course.orderly_year()
    tree = course.tree_of(year)
    return tree, {post: course.word(post, year) for post in tree.posts()}


def _checked_folk(tree, folk):
    if not is_list(folk) or not all([is_name(one) for one in folk]):
        raise NoFolk("folk are a list of names")
    if len(folk) != len(tree.posts()) or len(set(folk)) < len(folk):
        raise NoFolk("folk are all unlike, and as many as there are posts")
    return list(folk)


def _checked_words(tree, words):
    """Give the words as a dict of one's own."""
    if not isinstance(words, dict) or len(words) != len(tree.posts()):
        raise NoWords("words are a dict from all posts")
    kept = {}
    for post, word in words.items():
        if not isinstance(post, str) or post not in tree.posts():
            raise NoWords("words are of the tree's posts")
        kept[post] = _checked_word(tree, post, word)
    return kept


def _checked_word(tree, post, word):
    if not is_list(word) or not all([is_name(letter) for letter in word]):
        raise NoWords("a word is a list of posts")
    letters = []
    for below in tree.below(post):
        letters = letters + [below] * tree.size(below)
    if sorted(word) != letters:
        raise NoWords("each post right below stands in a word as often as its branch has posts")
    return list(word)
