"""Points 15 to 17: how many orderly standings, standings by words, patterns that come again."""

import copy
import itertools
import math
import random
import unittest

from cases import all_standings, any_standing, any_tree, brush, folk_names, orderly_standing, some_large, some_named
from cases import some_small, standing_of
from odd_things import NAMES, NO_NAMES, OTHER_KINDS, OTHER_TEXTS, RefusalCase, Sly, UnderList, can_be_key
from plain_walk import PlainWalk, is_orderly_plain, word_plain
from shapes import ALONE, CHAIN, STAR, STEPS, bush, chain, name_of, small_trees, star
from stepposts.course import Course
from stepposts.errors import NoFolk, NoPost, NoTree, NoWords
from stepposts.patterns import by_words, held_against, orderly_many, pattern_turns, pattern_years
from stepposts.standing import is_orderly
from stepposts.tree import Tree

LARGE = [chain(100), star(100), bush(100, 2), bush(100, 3), brush(100), any_tree(random.Random(71), 100)]
FAR = [0, 1, 2, 99, 10 ** 9 + 7, 10 ** 40 + 3, 10 ** 60 - 1]
NO_TREES = OTHER_KINDS + OTHER_TEXTS + NAMES + [{}, STEPS, Tree, [Tree(STEPS)]]
NO_COURSES = NO_TREES + [Tree(STEPS), Course, standing_of("a"), [Course(Tree(ALONE), [("x", "a")])]]


def posts_of(standing):
    return [post for _, post in standing]


def all_orderly(above_by):
    return [standing for standing in all_standings(above_by) if is_orderly_plain(above_by, standing)]


def small_shapes(many):
    """Give trees of so many posts, one at least of each shape."""
    for aboves in itertools.product(*[range(number) for number in range(1, many)]):
        yield {"a": None, **{"abcdef"[at + 1]: "abcdef"[above] for at, above in enumerate(aboves)}}


def words_plain(above_by, standing):
    return {post: word_plain(above_by, standing, post) for post in above_by}


def all_words(above_by):
    """Give all dicts of words that a tree may have."""
    tree = Tree(above_by)
    choices = []
    for post in tree.posts():
        letters = [below for below in tree.below(post) for _ in range(tree.size(below))]
        choices.append(sorted(set(itertools.permutations(letters))))
    for chosen in itertools.product(*choices):
        yield {post: list(word) for post, word in zip(tree.posts(), chosen)}


def patterns_plain(above_by, standing):
    """Give the patterns of an orderly standing's years, till the first one comes again."""
    walk = PlainWalk(above_by, standing, [], 1)
    while posts_of(walk.standings[-1]) != posts_of(standing):
        walk.one_year(len(walk.trees))
    return [posts_of(one) for one in walk.standings[:-1]]


def primes_of(number):
    """Give the primes that divide a number that has none beyond 200."""
    found = []
    for prime in range(2, 200):
        if number % prime == 0:
            found.append(prime)
            while number % prime == 0:
                number //= prime
    assert number == 1
    return found


class OrderlyMany(RefusalCase):
    def test_small_trees_by_counting_all_orders(self):
        for above_by in small_trees():
            self.assertEqual(orderly_many(Tree(above_by)), len(all_orderly(above_by)))
        for above_by in [*small_shapes(5), *list(small_shapes(6))[::9]]:
            self.assertEqual(orderly_many(Tree(above_by)), len(all_orderly(above_by)))

    def test_by_hand(self):
        self.assertEqual(orderly_many(Tree(ALONE)), 1)
        self.assertEqual(orderly_many(Tree(CHAIN)), 1)
        self.assertEqual(orderly_many(Tree(STAR)), 24)
        self.assertEqual(orderly_many(Tree({"a": None, "b": "a", "c": "b", "d": "a"})), 3)
        self.assertIs(type(orderly_many(Tree(STEPS))), int)

    def test_large_trees_by_choosing_the_ranks_of_each_branch(self):
        for above_by in LARGE:
            tree = Tree(above_by)
            many = 1
            for post in tree.posts():
                left = tree.size(post) - 1
                for below in tree.below(post):
                    many *= math.comb(left, tree.size(below))
                    left -= tree.size(below)
            self.assertEqual(orderly_many(tree), many)
        self.assertEqual(orderly_many(Tree(star(100))), math.factorial(99))
        self.assertEqual(orderly_many(tree=Tree(chain(100))), 1)

    def test_what_is_no_tree(self):
        self.assert_all_refused(NoTree, orderly_many, NO_TREES)


class ByWords(unittest.TestCase):
    def test_by_hand(self):
        tree = Tree({"a": None, "b": "a", "c": "b", "d": "a"})
        words = {"a": ["d", "b", "b"], "b": ["c"], "c": [], "d": []}
        self.assertEqual(by_words(tree, ["w", "x", "y", "z"], words), [("w", "a"), ("x", "d"), ("y", "b"), ("z", "c")])
        words = {"a": ["b", "d", "b"], "b": ["c"], "c": [], "d": []}
        self.assertEqual(by_words(tree, ["z", "x", "y", "w"], words), [("z", "a"), ("x", "b"), ("y", "d"), ("w", "c")])
        self.assertEqual(by_words(Tree(ALONE), ["x"], {"a": []}), [("x", "a")])

    def test_each_orderly_standing_of_small_trees_by_its_words(self):
        for above_by in [*small_trees(), *list(small_shapes(5))[::5]]:
            for standing in all_orderly(above_by):
                folk = [one for one, _ in standing]
                self.assertEqual(by_words(Tree(above_by), folk, words_plain(above_by, standing)), standing)

    def test_all_words_have_just_one_orderly_standing(self):
        for above_by in [*small_trees(), *small_shapes(5), *list(small_shapes(6))[::17]]:
            tree = Tree(above_by)
            folk = folk_names(len(above_by))
            told = []
            for words in all_words(above_by):
                standing = by_words(tree, folk, words)
                self.assertTrue(is_orderly_plain(above_by, standing))
                self.assertEqual(words_plain(above_by, standing), words)
                self.assertEqual([one for one, _ in standing], folk)
                told.append(tuple(posts_of(standing)))
            self.assertEqual(len(set(told)), len(told))
            self.assertEqual(len(told), orderly_many(tree))

    def test_large_trees(self):
        chance = random.Random(72)
        for above_by in LARGE:
            tree = Tree(above_by)
            standing = orderly_standing(chance, above_by)
            folk = [one for one, _ in standing]
            told = by_words(tree, folk, words_plain(above_by, standing))
            self.assertEqual(told, standing)
            self.assertTrue(is_orderly(tree, told))
            course = Course(tree, standing)
            for year in FAR:
                words = {post: course.word(post, year) for post in reversed(tree.posts())}
                self.assertEqual(posts_of(by_words(tree, folk, words)), posts_of(course.on_year(year)))

    def test_arguments_by_their_names_and_kinds(self):
        told = by_words(words={"a": []}, folk=["x"], tree=Tree(ALONE))
        self.assertEqual(told, [("x", "a")])
        self.assertIs(type(told), list)
        self.assertIs(type(told[0]), tuple)

    def test_what_is_handed_in_and_told_stays_apart(self):
        tree = Tree(STEPS)
        standing = orderly_standing(random.Random(73), STEPS)
        folk = [one for one, _ in standing]
        words = words_plain(STEPS, standing)
        kept = copy.deepcopy((folk, words))
        told = by_words(tree, folk, words)
        self.assertEqual((folk, words), kept)
        told.clear()
        told = by_words(tree, folk, words)
        self.assertEqual(told, standing)
        self.assertEqual((folk, words), kept)
        folk.reverse()
        words["root"].reverse()
        words.clear()
        self.assertEqual(told, standing)

    def test_other_orders_of_the_dict_tell_the_same(self):
        standing = orderly_standing(random.Random(74), STEPS)
        folk = [one for one, _ in standing]
        words = words_plain(STEPS, standing)
        items = list(words.items())
        for order in [items[::-1], sorted(items), sorted(items)[::-1], items[4:] + items[:4]]:
            self.assertEqual(by_words(Tree(STEPS), folk, dict(order)), standing)


class ByWordsRefusals(RefusalCase):
    ABOVE_BY = {"a": None, "b": "a", "c": "b", "d": "a"}
    FOLK = ["w", "x", "y", "z"]
    WORDS = {"a": ["d", "b", "b"], "b": ["c"], "c": [], "d": []}

    def assert_no_words(self, words):
        self.assert_refused(NoWords, by_words, Tree(self.ABOVE_BY), self.FOLK, words)

    def test_words_that_are_no_dict(self):
        for thing in OTHER_KINDS + OTHER_TEXTS + NAMES + [list(self.WORDS.items()), list(self.WORDS.values()), {}]:
            with self.subTest(thing=repr(thing)):
                self.assert_no_words(thing)

    def test_a_post_too_few_too_many_or_another(self):
        for post in "abcd":
            self.assert_no_words({one: word for one, word in self.WORDS.items() if one != post})
        less = {one: word for one, word in self.WORDS.items() if one != "d"}
        for thing in [*NO_NAMES, "e", "aa", "none"]:
            if can_be_key(thing):
                with self.subTest(thing=repr(thing)):
                    self.assert_no_words({**self.WORDS, thing: []})
                    self.assert_no_words({**less, thing: []})
                    self.assert_no_words({thing: [], **less})

    def test_a_key_of_its_own_equality_is_no_post(self):
        self.assert_refused(NoWords, by_words, Tree(ALONE), ["x"], {Sly(): []})

    def test_a_word_that_is_no_list(self):
        for post in "abcd":
            rows = [{"c": 1}, ("c",), ("d", "b", "b"), "c", "dbb", UnderList(self.WORDS[post])]
            for thing in OTHER_KINDS + OTHER_TEXTS + NAMES + [{}, *rows]:
                if type(thing) is not list or post in "ab":
                    with self.subTest(post=post, thing=repr(thing)):
                        self.assert_no_words({**self.WORDS, post: thing})

    def test_a_word_with_other_letters(self):
        for word in [
            [], ["b"], ["b", "b"], ["b", "d"], ["b", "b", "b"], ["b", "d", "d"], ["d", "d", "d"], ["b", "b", "d", "d"],
            ["b", "b", "b", "d"], ["b", "b", "d", "c"], ["b", "c", "d"], ["b", "b", "a"], ["b", "b", "e"],
            ["b", "b", "d", None], ["b", "b", ["d"]], [["b", "b", "d"]], ["bbd"], ["b", "b", "D"], ["b", "b", ""],
        ]:
            self.assert_no_words({**self.WORDS, "a": word})
        for word in [[], ["b"], ["d"], ["a"], ["c", "c"], ["cc"], [["c"]]]:
            self.assert_no_words({**self.WORDS, "b": word})
        for post in "cd":
            for word in [["a"], ["b"], ["c"], ["d"], [None], [[]], [""]]:
                self.assert_no_words({**self.WORDS, post: word})
        for thing in NO_NAMES:
            with self.subTest(thing=repr(thing)):
                self.assert_no_words({**self.WORDS, "b": [thing]})
                self.assert_no_words({**self.WORDS, "a": ["b", thing, "b"]})
                self.assert_no_words({**self.WORDS, "a": ["d", "b", "b", thing]})

    def test_what_is_no_list_of_folk(self):
        tree = Tree(self.ABOVE_BY)
        for folk in [
            *OTHER_KINDS, *OTHER_TEXTS, *NAMES, {}, [], ["w"], ["w", "x", "y"], ["w", "x", "y", "z", "v"], "wxyz",
            ("w", "x", "y", "z"), {"w", "x", "y", "z"}, {"w": 1, "x": 1, "y": 1, "z": 1}, iter(self.FOLK),
            UnderList(self.FOLK),
            ["w", "x", "y", "w"], ["w", "w", "y", "z"], ["w", "x", "y", "z", "z"], [["w", "x", "y", "z"]],
            ["w", "x", "y", (1, 0)], [(1, 0), (2, 0), (3, 0), (4, 0)], [("w", "a"), ("x", "b"), ("y", "c"), ("z", "d")],
        ]:
            with self.subTest(folk=repr(folk)):
                self.assert_refused(NoFolk, by_words, tree, folk, self.WORDS)
                for words in [None, {}, [], Sly(), {"a": None}]:
                    self.assert_refused(NoFolk, by_words, tree, folk, words)
                    self.assert_refused(NoFolk, by_words, words=words, folk=folk, tree=tree)
        for thing in NO_NAMES:
            with self.subTest(thing=repr(thing)):
                self.assert_refused(NoFolk, by_words, tree, ["w", "x", "y", thing], self.WORDS)
                self.assert_refused(NoFolk, by_words, tree, [thing, "x", "y", "z"], self.WORDS)

    def test_what_is_no_tree_goes_first(self):
        for thing in NO_TREES:
            with self.subTest(thing=repr(thing)):
                for folk, words in [(self.FOLK, self.WORDS), ([], self.WORDS), (self.FOLK, {}), (None, None)]:
                    self.assert_refused(NoTree, by_words, thing, folk, words)
                    self.assert_refused(NoTree, by_words, words=words, folk=folk, tree=thing)

    def test_what_is_refused_stays_as_it_was(self):
        for given in [{**self.WORDS, "b": ["d"]}, {**self.WORDS, "b": [["c"]]}, {"a": {"b": 1}}]:
            words = copy.deepcopy(given)
            self.assert_no_words(words)
            self.assertEqual(words, given)


class PatternYears(RefusalCase):
    def test_by_hand(self):
        self.assertEqual(pattern_years(Course(Tree(ALONE), [("x", "a")])), 1)
        self.assertEqual(pattern_years(Course(Tree(chain(100)), standing_of([name_of(at) for at in range(100)]))), 1)
        self.assertEqual(pattern_years(Course(Tree(star(100)), standing_of([name_of(at) for at in range(100)]))), 99)
        tree = Tree({"a": None, "b": "a", "c": "b", "d": "a", "e": "d"})
        self.assertEqual(pattern_years(Course(tree, standing_of("abcde"))), 4)
        self.assertEqual(pattern_years(Course(tree, standing_of("abdce"))), 2)
        self.assertIs(type(pattern_years(Course(tree, standing_of("edcba")))), int)

    def test_all_orderly_standings_of_small_trees(self):
        for above_by in [*small_trees(), *small_shapes(5), *list(small_shapes(6))[::11]]:
            for standing in all_orderly(above_by)[::3]:
                course = Course(Tree(above_by), standing)
                self.assertEqual(pattern_years(course), len(patterns_plain(above_by, standing)))

    def test_others_with_deeds_and_without(self):
        for above_by, standing, deeds in [*some_named(), *some_small()]:
            course = Course(Tree(above_by), standing, deeds=deeds)
            first = course.orderly_year()
            tree = course.tree_of(first)
            begun = standing_of(posts_of(course.on_year(first)))
            patterns = patterns_plain({post: tree.above(post) for post in tree.posts()}, begun)
            self.assertEqual(pattern_years(course), len(patterns))

    def test_large_trees(self):
        for above_by, standing, deeds in some_large():
            course = Course(Tree(above_by), standing, deeds=deeds)
            first = course.orderly_year()
            years = pattern_years(course)
            pattern = posts_of(course.on_year(first))
            for times in [1, 2, 7 ** 50]:
                self.assertEqual(posts_of(course.on_year(first + years * times)), pattern)
            # All years behind which the pattern comes again are so many times the least one.
            for prime in primes_of(years):
                self.assertNotEqual(posts_of(course.on_year(first + years // prime)), pattern)

    def test_told_numbers_have_as_many_figures_as_they_need(self):
        course = Course(Tree(brush(100)), orderly_standing(random.Random(75), brush(100)))
        self.assertGreater(pattern_years(course), 10 ** 20)

    def test_what_is_no_course(self):
        self.assert_all_refused(NoTree, pattern_years, NO_COURSES)
        self.assertEqual(pattern_years(course=Course(Tree(ALONE), [("x", "a")])), 1)


class PatternTurns(RefusalCase):
    def branch_words(self, course, tree, post, number):
        """Give the words of a post's branch behind so many of its turns from the orderly year on."""
        year = course.orderly_year() if number == 0 else course.turn_year(post, number)
        return [course.word(one, year) for one in tree.branch(post)]

    def test_small_trees_by_going_through_their_turns(self):
        shapes = [*small_trees(), *small_shapes(5), *list(small_shapes(6))[::11]]
        for above_by in shapes:
            for standing in all_orderly(above_by)[::5]:
                self.assert_least(Course(Tree(above_by), standing))

    def test_others_with_deeds_and_without(self):
        for above_by, standing, deeds in [*some_named(), *some_small()]:
            self.assert_least(Course(Tree(above_by), standing, deeds=deeds))

    def assert_least(self, course):
        tree = course.tree_of(course.orderly_year())
        for post in tree.posts():
            words = self.branch_words(course, tree, post, 0)
            number = 1
            while self.branch_words(course, tree, post, number) != words:
                number += 1
            self.assertEqual(pattern_turns(course, post), number)

    def test_large_trees(self):
        for above_by, standing, deeds in some_large():
            course = Course(Tree(above_by), standing, deeds=deeds)
            tree = course.tree_of(10 ** 9)
            for post in [tree.head(), *sorted(tree.posts(), key=tree.size)[-12::3]]:
                words = self.branch_words(course, tree, post, 0)
                turns = pattern_turns(course, post)
                for times in [1, 3, 5 ** 40]:
                    self.assertEqual(self.branch_words(course, tree, post, turns * times), words)
                for prime in primes_of(turns):
                    self.assertNotEqual(self.branch_words(course, tree, post, turns // prime), words)

    def test_the_heads_turns_are_years(self):
        for above_by, standing, deeds in [*some_named(), *some_small(), *some_large()]:
            course = Course(Tree(above_by), standing, deeds=deeds)
            head = course.tree_of(10 ** 9).head()
            self.assertEqual(pattern_turns(course, head), pattern_years(course))

    def test_1_of_a_post_with_none_below(self):
        for above_by, standing, deeds in some_large():
            course = Course(Tree(above_by), standing, deeds=deeds)
            tree = course.tree_of(10 ** 9)
            for post in [post for post in tree.posts() if tree.size(post) == 1][:3]:
                self.assertEqual(pattern_turns(course, post), 1)

    def test_what_is_no_course_goes_first(self):
        for thing in NO_COURSES:
            with self.subTest(thing=repr(thing)):
                for post in ["root", "zz", None, [], Sly()]:
                    self.assert_refused(NoTree, pattern_turns, thing, post)
                    self.assert_refused(NoTree, pattern_turns, post=post, course=thing)

    def test_what_is_no_post_of_the_orderly_years_tree(self):
        deeds = [(3, "shut", "g"), (2, "open", "new", "b"), (1, "open", "old", "b"), (4, "shut", "old")]
        course = Course(Tree(STEPS), standing_of(sorted(STEPS)), deeds=deeds)
        things = [*NO_NAMES, "g", "old", "zz", "none"]
        self.assert_all_refused(NoPost, lambda post: pattern_turns(course, post), things)
        self.assertEqual(pattern_turns(course=course, post="new"), 1)


class HeldAgainst(RefusalCase):
    def test_by_hand(self):
        tree = Tree({"a": None, "b": "a", "c": "b", "d": "a", "e": "d"})
        course = Course(tree, standing_of("abcde"))
        self.assertEqual(held_against(course, course), ("later", 0))
        # The words of a: b, b, d, d, and so on by the years b, d, d, b.
        self.assertEqual(held_against(course, Course(tree, standing_of("abdec"))), ("later", 1))
        self.assertEqual(held_against(Course(tree, standing_of("abdec")), course), ("later", 3))
        self.assertEqual(held_against(course, Course(tree, standing_of("abdce"))), ("other",))
        self.assertEqual(held_against(one=course, other=course), ("later", 0))

    def test_all_pairs_of_orderly_standings_of_small_trees(self):
        for above_by in [*small_trees(), *small_shapes(5)]:
            tree = Tree(above_by)
            orderly = all_orderly(above_by)
            courses = [(posts_of(standing), Course(tree, standing)) for standing in orderly]
            for standing in orderly[::4]:
                patterns = patterns_plain(above_by, standing)
                one = Course(tree, standing)
                for pattern, other in courses:
                    expected = ("later", patterns.index(pattern)) if pattern in patterns else ("other",)
                    self.assertEqual(held_against(one, other), expected)

    def test_courses_with_deeds_and_other_orderly_years(self):
        for above_by, standing, deeds in [*some_named(), *some_small()]:
            one = Course(Tree(above_by), standing, deeds=deeds)
            first = one.orderly_year()
            tree = one.tree_of(first)
            tree_by = {post: tree.above(post) for post in tree.posts()}
            patterns = patterns_plain(tree_by, standing_of(posts_of(one.on_year(first))))
            chance = random.Random(76)
            for _ in range(4):
                other = Course(tree, any_standing(chance, tree_by), deeds=[(3, "leave", tree.head())])
                pattern = posts_of(other.on_year(other.orderly_year()))
                expected = ("later", patterns.index(pattern)) if pattern in patterns else ("other",)
                self.assertEqual(held_against(one, other), expected)

    def test_one_begun_some_years_on(self):
        for above_by, standing, deeds in [*some_named(), *list(some_small())[::4], *some_large()]:
            one = Course(Tree(above_by), standing, deeds=deeds)
            first = one.orderly_year()
            years = pattern_years(one)
            for later in [0, 1, 2, years - 1, years, years + 1, *FAR]:
                begun = standing_of(posts_of(one.on_year(first + later)))
                other = Course(one.tree_of(first), begun)
                self.assertEqual(held_against(one, other), ("later", later % years))
                self.assertEqual(held_against(other, one), ("later", -later % years))
                self.assertEqual(pattern_years(other), years)

    def test_large_trees_others(self):
        chance = random.Random(77)
        for above_by in LARGE[2:]:
            tree = Tree(above_by)
            one = Course(tree, orderly_standing(chance, above_by))
            other = Course(tree, orderly_standing(chance, above_by))
            self.assertEqual(held_against(one, other), ("other",))
        posts = [name_of(at) for at in range(100)]
        one = Course(Tree(star(100)), standing_of(posts))
        turned = Course(Tree(star(100)), standing_of([posts[0], *posts[42:], *posts[1:42]]))
        swapped = Course(Tree(star(100)), standing_of([posts[0], posts[2], posts[1], *posts[3:]]))
        self.assertEqual(held_against(one, turned), ("later", 41))
        self.assertEqual(held_against(turned, one), ("later", 58))
        self.assertEqual(held_against(one, swapped), ("other",))

    def test_words_alike_but_never_at_once(self):
        # Each of the two words comes to be the other course's one, but in no year both of them.
        found = 0
        for above_by in small_shapes(6):
            tree = Tree(above_by)
            if sorted(tree.size(post) for post in tree.posts())[-2] < 4:
                continue
            for words in list(all_words(above_by))[::3]:
                one = Course(tree, by_words(tree, folk_names(6), words))
                for post in [post for post in tree.posts() if 3 <= tree.size(post) < 6]:
                    turned = {**words, post: words[post][1:] + words[post][:1]}
                    other = Course(tree, by_words(tree, folk_names(6), turned))
                    patterns = patterns_plain(above_by, by_words(tree, folk_names(6), words))
                    pattern = posts_of(other.on_year(0))
                    expected = ("later", patterns.index(pattern)) if pattern in patterns else ("other",)
                    self.assertEqual(held_against(one, other), expected)
                    found += expected == ("other",)
        self.assertGreater(found, 0)

    def test_other_trees_in_the_orderly_years(self):
        one = Course(Tree(CHAIN), standing_of("dbac"))
        for above_by in [ALONE, STAR, STEPS, {**CHAIN, "c": "b"}, {**CHAIN, "e": "c"}]:
            other = Course(Tree(above_by), standing_of(sorted(above_by)))
            self.assert_refused(NoTree, held_against, one, other)
            self.assert_refused(NoTree, held_against, other, one)
        # What counts is the tree of the orderly year, and not that of the beginning.
        opened = Course(Tree(CHAIN), standing_of("dbac"), deeds=[(4, "open", "e", "c")])
        self.assert_refused(NoTree, held_against, one, opened)
        shut = Course(Tree({**CHAIN, "e": "a"}), standing_of("dbace"), deeds=[(4, "shut", "e")])
        self.assertEqual(held_against(one, shut), ("later", 0))
        self.assertEqual(held_against(shut, one), ("later", 0))

    def test_what_is_no_course(self):
        course = Course(Tree(STEPS), standing_of(sorted(STEPS)))
        for thing in NO_COURSES:
            with self.subTest(thing=repr(thing)):
                self.assert_refused(NoTree, held_against, thing, course)
                self.assert_refused(NoTree, held_against, course, thing)
                self.assert_refused(NoTree, held_against, thing, thing)

    def test_kinds_of_what_is_told(self):
        course = Course(Tree(STAR), standing_of("maeqz"))
        told = held_against(course, Course(Tree(STAR), standing_of("mqzae")))
        self.assertEqual(told, ("later", 2))
        self.assertEqual([type(told), type(told[0]), type(told[1])], [tuple, str, int])
        self.assertIs(type(held_against(course, Course(Tree(STAR), standing_of("mqzea")))), tuple)

    def test_asking_changes_no_course(self):
        one = Course(Tree(STEPS), standing_of(sorted(STEPS)), deeds=[(2, "leave", "c")])
        other = Course(Tree(STEPS), standing_of(sorted(STEPS, reverse=True)))
        first = max(one.orderly_year(), other.orderly_year())
        kept = [[course.on_year(year) for year in [0, first, first + 3, 10 ** 50]] for course in [one, other]]
        for _ in range(20):
            held_against(one, other)
            pattern_years(one)
            pattern_turns(other, "c")
            now = [[course.on_year(year) for year in [0, first, first + 3, 10 ** 50]] for course in [one, other]]
            self.assertEqual(now, kept)


if __name__ == "__main__":
    unittest.main()
