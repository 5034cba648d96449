"""Trees, standings and deeds for the walks of the tests, the same ones at each run."""

import itertools
import random

from shapes import ALONE, CHAIN, STAR, STEPS, bush, chain, name_of, small_trees, star


def folk_names(many):
    """Give names of folk, which are in no order."""
    return [name_of(5000 + number) for number in range(many)]


def standing_of(posts):
    """Give a standing with the posts in this order of service."""
    return list(zip(folk_names(len(posts)), posts))


def all_standings(above_by):
    for posts in itertools.permutations(sorted(above_by)):
        yield standing_of(posts)


def all_small():
    """Give all trees of up to four posts with all of their standings."""
    for above_by in small_trees():
        for standing in all_standings(above_by):
            yield above_by, standing


def any_tree(chance, many):
    above_by = {name_of(0): None}
    for number in range(1, many):
        above_by[name_of(number)] = name_of(chance.randrange(number))
    items = list(above_by.items())
    chance.shuffle(items)
    return dict(items)


def any_standing(chance, above_by):
    posts = sorted(above_by)
    chance.shuffle(posts)
    return standing_of(posts)


def orderly_standing(chance, above_by):
    """Give any orderly standing: each next one holds a post whose one above is held."""
    posts = []
    while len(posts) < len(above_by):
        posts.append(chance.choice([
            post for post in sorted(above_by) if post not in posts and above_by[post] in [None, *posts]
        ]))
    return standing_of(posts)


def brush(many):
    """Give a chain with one more post beside each of its own."""
    above_by = {name_of(0): None}
    top = 0
    for number in range(1, many):
        above_by[name_of(number)] = name_of(top)
        top = number if number % 2 == 0 else top
    return above_by


def any_deed(chance, above_by, year):
    """Give any deed that can be done, and do it in the dict."""
    posts = sorted(above_by)
    ends = [post for post in posts if post not in above_by.values() and above_by[post] is not None]
    word = chance.choice(["leave", "open", "shut"] if ends else ["leave", "open"])
    if word == "leave":
        return year, word, chance.choice(posts)
    if word == "shut":
        post = chance.choice(ends)
        del above_by[post]
        return year, word, post
    # From few names, so that some that were shut are opened again.
    post = chance.choice([name_of(900 + number) for number in range(70) if name_of(900 + number) not in above_by][:4])
    above_by[post] = chance.choice(posts)
    return year, word, post, above_by[post]


def any_deeds(chance, above_by, many, last):
    """Give deeds of years to the last one, in any order of years, but each year's in its order."""
    above_by = dict(above_by)
    rows = [any_deed(chance, above_by, year) for year in sorted(chance.randint(0, last) for _ in range(many))]
    years = sorted({deed[0] for deed in rows})
    left = {year: [deed for deed in rows if deed[0] == year] for year in years}
    mixed = []
    while years:
        year = chance.choice(years)
        mixed.append(left[year].pop(0))
        years = [year for year in years if left[year]]
    return mixed


def some_small():
    """Give trees of up to nine posts, each with a standing and deeds, or none."""
    chance = random.Random(11)
    for number in range(150):
        above_by = any_tree(chance, chance.randint(1, 9))
        standing = (orderly_standing if number % 3 == 0 else any_standing)(chance, above_by)
        many = chance.choice([0, 1, 2, 5, 12])
        yield above_by, standing, any_deeds(chance, above_by, many, chance.choice([0, 1, 4, 15, 40]))


def some_named():
    chance = random.Random(12)
    for above_by in [ALONE, CHAIN, STAR, STEPS]:
        for make in [orderly_standing, any_standing]:
            yield above_by, make(chance, above_by), []
            yield above_by, make(chance, above_by), any_deeds(chance, above_by, 6, 12)


def some_large():
    """Give trees of a hundred posts, each with a standing and deeds, or none."""
    chance = random.Random(13)
    for above_by in [chain(100), star(100), bush(100, 2), brush(100), any_tree(chance, 100)]:
        yield above_by, any_standing(chance, above_by), []
        yield above_by, any_standing(chance, above_by), any_deeds(chance, above_by, 60, 150)
    above_by = any_tree(chance, 100)
    yield above_by, orderly_standing(chance, above_by), any_deeds(chance, above_by, 60, 1000)
