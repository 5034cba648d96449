"""Trees as dicts from posts to the post right above, for the tests."""

import itertools

ALONE = {"a": None}
CHAIN = {"b": "d", "d": None, "c": "a", "a": "b"}
STAR = {"e": "m", "z": "m", "m": None, "a": "m", "q": "m"}
STEPS = {"h": "c", "b": "root", "f": "b", "root": None, "c": "root", "aa": "c", "k": "h", "ab": "h", "d": "b", "g": "k"}


def name_of(number):
    """Give each number a name of its own, of four letters, in another order than the numbers."""
    number = number * 7919 % 26 ** 4
    letters = []
    for _ in range(4):
        letters.append("abcdefghijklmnopqrstuvwxyz"[number % 26])
        number //= 26
    return "".join(letters)


def bush(many, step):
    """Give a tree of many posts, each right below that of its number divided by step."""
    return {name_of(k): None if k == 0 else name_of((k - 1) // step) for k in range(many)}


def chain(many):
    return bush(many, 1)


def star(many):
    return bush(many, many)


ORDINARY = [ALONE, CHAIN, STAR, STEPS, bush(100, 2), bush(100, 3), bush(99, 9), chain(100), star(100)]


def way_up(above_by, post):
    """Give a post and all above it, straight from the dict; None where it doesn't come up to a head."""
    way = []
    while post is not None:
        if post not in above_by or post in way:
            return None
        way.append(post)
        post = above_by[post]
    return way


def is_tree(above_by):
    heads = [post for post in above_by if above_by[post] is None]
    return len(heads) == 1 and all(way_up(above_by, post) for post in above_by)


def all_dicts(posts, aboves):
    for chosen in itertools.product(aboves, repeat=len(posts)):
        yield dict(zip(posts, chosen))


def small_trees():
    for posts in ["a", "ab", "abc", "abcd"]:
        for above_by in all_dicts(posts, [None, *posts]):
            if is_tree(above_by):
                yield above_by
